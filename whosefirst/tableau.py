"""The least sum of costs of unknown numbers, 0 or more, that make some columns add up to another one."""

from whosefirst.ratios import Ratio, over_one_bottom


class Tableau:
    """Equations solved for some of the unknown numbers, all others being 0.

    Each row has a number for each unknown and, behind them, what they come to, 0 or more;
    `solved` has for each row the number of the unknown that stands in it once, and in no
    other row. At first these are helpers, numbered behind the unknowns; as none of them
    ever comes back, their own numbers in the rows are not kept. All numbers are whole
    ones over the one number `whole`, above 0.
    """

    def __init__(self, rows, solved):
        self.rows = rows
        self.solved = solved
        self.whole = 1

    def solve(self, at, column):
        """Solves the row with a number for another unknown."""
        side = -1 if self.rows[at][column] < 0 else 1
        head = [side * number for number in self.rows[at]]
        first = head[column]
        for other in range(len(self.rows)):
            if other != at:
                factor = self.rows[other][column]
                parted = [number * first - factor * more for number, more in zip(self.rows[other], head)]
                # What was parted by the elder number once, and multiplied by it, is a whole number again.
                self.rows[other] = [number // self.whole for number in parted]
        self.rows[at] = head
        self.whole = first
        self.solved[at] = column

    def gain(self, costs, column):
        """By how much the sum of the costs grows if an unknown grows by 1, times the whole."""
        return costs[column] * self.whole - sum([costs[one] * row[column] for one, row in zip(self.solved, self.rows)])

    def first_cheaper(self, costs, columns):
        """The first of some unknowns that makes the sum of the costs less if it grows, None without one."""
        for column in columns:
            if column not in self.solved and self.gain(costs, column) < 0:
                return column
        return None

    def first_bound(self, column):
        """The number of the row that is first at 0 if an unknown grows, None without one; of several the least."""
        best = None
        for at, row in enumerate(self.rows):
            if row[column] > 0:
                room = -1 if best is None else row[-1] * self.rows[best][column] - self.rows[best][-1] * row[column]
                if room < 0 or (room == 0 and self.solved[at] < self.solved[best]):
                    best = at
        return best

    def lessen(self, costs, columns):
        """Lets some unknowns grow until the sum of the costs is least: whether there is a least one.

        Always the first one that makes it less is taken, so that no choice comes twice.
        """
        column = self.first_cheaper(costs, columns)
        while column is not None:
            at = self.first_bound(column)
            if at is None:
                return False
            self.solve(at, column)
            column = self.first_cheaper(costs, columns)
        return True

    def sum_of_costs(self, costs):
        """The sum of the costs, times the whole."""
        return sum([costs[one] * row[-1] for one, row in zip(self.solved, self.rows)])


def tableau_for(columns, aim):
    """A Tableau in which the columns add up to the aim, None if they cannot with numbers of 0 or more."""
    many = len(columns)
    rows = []
    for at, number in enumerate(aim):
        # What a row comes to must be 0 or more: it is turned about if that is less.
        side = -1 if number.sign < 0 else 1
        row, _ = over_one_bottom([column[at] * side for column in columns] + [number * side])
        rows.append(row)
    tableau = Tableau(rows, [many + at for at in range(len(aim))])
    helpers = [0] * many + [1] * len(aim)
    tableau.lessen(helpers, list(range(many)))
    if tableau.sum_of_costs(helpers) != 0:
        return None
    for at in range(len(aim)):
        # A helper that is left at 0 must not grow again: another unknown takes its row, if one is in it.
        columns_left = [column for column in range(many) if tableau.rows[at][column] != 0]
        if tableau.solved[at] >= many and columns_left:
            tableau.solve(at, columns_left[0])
    return tableau


def least_cost(columns, aim, costs):
    """Whether columns add up to the aim with numbers of 0 or more, and the least sum of costs, None without one."""
    tableau = tableau_for(columns, aim)
    if tableau is None:
        return False, None
    whole, bottom = over_one_bottom(costs)
    every = whole + [0] * len(aim)
    if not tableau.lessen(every, list(range(len(columns)))):
        return True, None
    return True, Ratio(tableau.sum_of_costs(every), bottom * tableau.whole)
