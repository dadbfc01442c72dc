"""The turned parts of tables, how many patterns they have, and which sides come together in them."""

from whosefirst.errors import TooMany
from whosefirst.parting import tree_of_parts
from whosefirst.placed import ask_placed, goes_round
from whosefirst.tables import ask_apart, ask_table, ask_table_name, leaders_from, sides_of

MOST_NAMES = 5


def turned_parts(table):
    """The tree of the turned parts of a table."""
    ask_table(table)
    ask_placed(table)
    return tree_of_parts(table, list(table.names))


def patterns_count(table):
    """How many patterns a table has."""
    return count_below(turned_parts(table))


def all_patterns(table):
    """All patterns of a table, ascending."""
    ask_table(table)
    if len(table.names) > MOST_NAMES:
        raise TooMany("names", MOST_NAMES)
    ask_placed(table)
    patterns = [[]]
    for sides in classes_of(table):
        turned = [(right, left) for left, right in sides]
        longer = [[*pattern, *more] for pattern in patterns for more in (sides, turned)]
        patterns = [pattern for pattern in longer if not goes_round(pattern)]
    return tuple(sorted([tuple(sorted(pattern)) for pattern in patterns]))


def bond_of(table, one, other, third, fourth):
    """Whether two sides come "together" in all patterns, "against" one another, or are "free"."""
    ask_table(table)
    for name in (one, other, third, fourth):
        ask_table_name(table, name)
    ask_apart(table, one, other)
    ask_apart(table, third, fourth)
    ask_placed(table)
    sides = leaders_from(table, (one, other))
    if (third, fourth) in sides:
        return "together"
    return "against" if (fourth, third) in sides else "free"


def count_below(tree):
    """How many patterns the names of a tree have."""
    if isinstance(tree, str):
        return 1
    count = 2 if tree[0] == "bound" else 1
    for at, below in enumerate(tree[1:]):
        count = count * count_below(below)
        # The parts of a "beside" can lie in each order.
        count = count * (at + 1) if tree[0] == "beside" else count
    return count


def classes_of(table):
    """Sides shared out into lists of those that go with one another, of each two opposite ones just the one."""
    classes = []
    known = {}
    for side in sides_of(table):
        if side not in known:
            sides = list(leaders_from(table, side))
            classes.append(sides)
            for left, right in sides:
                known[(left, right)] = True
                known[(right, left)] = True
    return classes
