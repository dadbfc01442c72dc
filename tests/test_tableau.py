"""The search for the ends of paces: whosefirst/tableau.py, against a look at all corners."""

import random
from fractions import Fraction
from itertools import combinations

from helpers import Case
from own import exact
from whosefirst.ratios import Ratio
from whosefirst.tableau import least_cost


def solved(columns, aim):
    """The numbers with which unlike columns that do not depend on one another add up to the aim, None if they do not or depend."""
    rows = [[column[at] for column in columns] + [aim[at]] for at in range(len(aim))]
    at = 0
    for column in range(len(columns)):
        first = next((row for row in range(at, len(rows)) if rows[row][column]), None)
        if first is None:
            return None
        rows[at], rows[first] = rows[first], rows[at]
        rows[at] = [number / rows[at][column] for number in rows[at]]
        for row in range(len(rows)):
            if row != at:
                rows[row] = [number - rows[row][column] * more for number, more in zip(rows[row], rows[at])]
        at += 1
    return None if any(row[-1] for row in rows[at:]) else [row[-1] for row in rows[:at]]


def corners(columns, aim):
    """All ways to add up to the aim with numbers of 0 or more for columns that do not depend on one another."""
    found = []
    for many in range(len(aim) + 1):
        for some in combinations(range(len(columns)), many):
            numbers = solved([columns[at] for at in some], aim)
            if numbers is not None and min(numbers, default=0) >= 0:
                found.append(dict(zip(some, numbers)))
    return found


class Tableaus(Case):

    def test_random(self):
        source = random.Random(120)
        seen = {}
        for _ in range(500):
            rows, many = source.randint(1, 3), source.randint(0, 5)
            columns = [[Fraction(source.randint(-3, 3), source.randint(1, 2)) for _ in range(rows)] for _ in range(many)]
            if rows > 1 and source.random() < 0.4:
                columns = [[*column[:-1], column[0] * 2] for column in columns]
            aim = [Fraction(source.randint(-3, 3)) for _ in range(rows)]
            aim = [*aim[:-1], aim[0] * 2] if source.random() < 0.4 else aim
            aim = [Fraction(0)] * rows if source.random() < 0.15 else aim
            costs = [Fraction(source.randint(-3, 3)) for _ in range(many)]
            word = self.look_at(columns, aim, costs)
            seen[word] = seen.get(word, 0) + 1
        self.assertGreater(min(seen.get(word, 0) for word in ("none", "endless", "least")), 40)

    def look_at(self, columns, aim, costs):
        is_some, least = least_cost([[self.ratio(number) for number in column] for column in columns], [self.ratio(number) for number in aim],
                                    [self.ratio(number) for number in costs])
        found = corners(columns, aim)
        self.assertIs(is_some, bool(found))
        if not found:
            self.assertIs(least, None)
            return "none"
        # It is endless exactly if some way adds up to nothing, with numbers that add up to 1, and costs less than 0.
        ways = corners([[*column, Fraction(1)] for column in columns], [Fraction(0)] * len(aim) + [Fraction(1)])
        if any(sum(costs[at] * number for at, number in way.items()) < 0 for way in ways):
            self.assertIs(least, None)
            return "endless"
        self.assertEqual(exact(least), min(sum(costs[at] * number for at, number in corner.items()) for corner in found))
        return "least"

    def ratio(self, number):
        return Ratio(number.numerator, number.denominator)
