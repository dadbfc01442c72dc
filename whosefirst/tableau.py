"""The least sum of costs of unknown numbers, 0 or more, that make some columns add up to another one."""

from whosefirst.ratios import Ratio, summed


class Tableau:
    """Equations solved for some of the unknown numbers, all others being 0.

    Each row has a number for each unknown and, behind them, what they come to, 0 or more;
    `solved` has for each row the number of the unknown that stands in it once, and in no
    other row. At first these are helpers, numbered behind the unknowns; as none of them
    ever comes back, their own numbers in the rows are not kept.
    """

    def __init__(self, rows, solved):
        self.rows = rows
        self.solved = solved

    def solve(self, at, column):
        """Solves the row with a number for another unknown."""
        first = self.rows[at][column]
        head = [number.over(first) for number in self.rows[at]]
        for other in range(len(self.rows)):
            factor = self.rows[other][column]
            if other != at and factor.sign != 0:
                self.rows[other] = [number - more * factor for number, more in zip(self.rows[other], head)]
        self.rows[at] = head
        self.solved[at] = column

    def gain(self, costs, column):
        """By how much the sum of the costs grows if an unknown grows by 1."""
        return costs[column] - summed([costs[one] * row[column] for one, row in zip(self.solved, self.rows)])

    def first_cheaper(self, costs, columns):
        """The first of some unknowns that makes the sum of the costs less if it grows, None without one."""
        for column in columns:
            if column not in self.solved and self.gain(costs, column).sign < 0:
                return column
        return None

    def first_bound(self, column):
        """The number of the row that is first at 0 if an unknown grows, None without one; of several the least."""
        best, least = None, None
        for at, row in enumerate(self.rows):
            if row[column].sign > 0:
                room = row[-1].over(row[column])
                if best is None or room.is_below(least) or (room == least and self.solved[at] < self.solved[best]):
                    best, least = at, room
        return best

    def lessen(self, costs, columns):
        """Lets some unknowns grow until the sum of the costs is least: whether there is a least one.

        Always the first one that makes it less is taken, so that no choice comes twice.
        """
        column = self.first_cheaper(costs, columns)
        while column is not None:
            at = self.first_bound(column)
            if at is None:
                return False
            self.solve(at, column)
            column = self.first_cheaper(costs, columns)
        return True

    def sum_of_costs(self, costs):
        """The sum of the costs."""
        return summed([costs[one] * row[-1] for one, row in zip(self.solved, self.rows)])


def tableau_for(columns, aim):
    """A Tableau in which the columns add up to the aim, None if they cannot with numbers of 0 or more."""
    many = len(columns)
    rows = []
    for at, number in enumerate(aim):
        # What a row comes to must be 0 or more: it is turned about if that is less.
        side = -1 if number.sign < 0 else 1
        rows.append([column[at] * side for column in columns] + [number * side])
    tableau = Tableau(rows, [many + at for at in range(len(aim))])
    helpers = [Ratio(0)] * many + [Ratio(1)] * len(aim)
    tableau.lessen(helpers, list(range(many)))
    if tableau.sum_of_costs(helpers).sign != 0:
        return None
    for at in range(len(aim)):
        # A helper that is left at 0 must not grow again: another unknown takes its row, if one is in it.
        columns_left = [column for column in range(many) if tableau.rows[at][column].sign != 0]
        if tableau.solved[at] >= many and columns_left:
            tableau.solve(at, columns_left[0])
    return tableau


def least_cost(columns, aim, costs):
    """Whether columns add up to the aim with numbers of 0 or more, and the least sum of costs, None without one."""
    tableau = tableau_for(columns, aim)
    if tableau is None:
        return False, None
    every = costs + [Ratio(0)] * len(aim)
    if not tableau.lessen(every, list(range(len(columns)))):
        return True, None
    return True, tableau.sum_of_costs(every)
