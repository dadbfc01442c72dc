"""The search behind point 10: how much of a change a pace can take, whosefirst/calling.py."""

import random

from helpers import Case
from test_moved import some_books
from test_callers import random_rows
from whosefirst.callers import find_caller, keeps_rows
from whosefirst.calling import pace_or_weights, share_to_lean
from whosefirst.ratios import Ratio


def worth(row, point):
    """The worth of a step, time first, at a pace of any square."""
    total = Ratio(row[0])
    for number, part in zip(row[1:], point):
        total = total - part * number
    return total


def square(point):
    total = Ratio(0)
    for part in point:
        total = total + part * part
    return total


class Shares(Case):

    def test_what_is_late_stays_late_and_the_pace_slower_than_light(self):
        source = random.Random(220)
        whole = {True: 0, False: 0}
        for _ in range(400):
            axes, bottom, below = source.choice([1, 2, 3]), source.randint(1, 9), source.choice([1, 2, 9, 60])
            numbers = [source.randint(-bottom, bottom) for _ in range(axes)]
            way = [source.randint(-4, 4) for _ in range(axes)]
            point, lean = [Ratio(number, bottom) for number in numbers], [Ratio(number, below) for number in way]
            if not square(point).is_below(1):
                continue
            rows = [[source.randint(-9, 9) for _ in range(axes + 1)] for _ in range(source.randint(0, 5))]
            late = [row for row in rows if worth(row, point).sign > 0]
            share = share_to_lean((numbers, bottom), (way, below), late)
            self.assertTrue(share.sign > 0 and not Ratio(1).is_below(share))
            whole[share == 1] += 1
            for some in (share, share * Ratio(1, 2), share * Ratio(1, 100)):
                changed = [part + more * some for part, more in zip(point, lean)]
                self.assertTrue(square(changed).is_below(1))
                for row in late:
                    self.assertEqual(worth(row, changed).sign, 1)
        self.assertGreater(min(whole.values()), 20)

    def test_paces_or_weights_by_steps(self):
        source = random.Random(221)
        seen = set()
        for book in some_books():
            for many in (0, 1, 3, 5):
                rows = random_rows(source, book, many)
                pace, weights = pace_or_weights([book.step_of(row.span) for row in rows], [row.kind for row in rows], book.axes)
                self.assertEqual(pace is None, weights is not None)
                self.assertEqual(bool(find_caller(book, rows)), pace is not None)
                self.assertTrue(pace is None or keeps_rows(book, pace, rows))
                seen.add(pace is None)
        self.assertEqual(seen, {True, False})
