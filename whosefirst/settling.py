"""What the rows that are cut settle of a saying, and what is found below a place in a tree."""

from whosefirst.rows import is_kept


def settled_parts(saying, cuts):
    """For each part of a saying True, False, or None if it is not settled; cuts has the signs of the cut rows."""
    settled = []
    row = 0
    for part in saying.parts:
        if part[0] == "row":
            settled.append(is_kept(part[1].kind, cuts[row]) if row in cuts else None)
            row = row + 1
        else:
            settled.append(settled_part(part, settled))
    return settled


def settled_part(part, settled):
    """What is settled of a part that is no row, by what is settled of the parts ahead."""
    word = part[0]
    if word == "yes" or word == "no":
        return word == "yes"
    if word == "not":
        return None if settled[part[1]] is None else not settled[part[1]]
    numbers = part[2:] if word == "least" else part[1:]
    due = part[1] if word == "least" else 1
    due = len(numbers) if word == "and" else due
    if len([number for number in numbers if settled[number]]) >= due:
        return True
    return None if len([number for number in numbers if settled[number] is None or settled[number]]) >= due else False


def row_to_cut(saying, settled):
    """The number of a row that is not cut, and of which it hangs that the last part is not settled."""
    at = len(saying) - 1
    while saying.parts[at][0] != "row":
        part = saying.parts[at]
        numbers = part[2:] if part[0] == "least" else part[1:]
        at = [number for number in numbers if settled[number] is None][0]
    return len([part for part in saying.parts[:at] if part[0] == "row"])


class Look:
    """What is found below a place: the tree there, and whoever keeps the saying, and does not, None for nobody.

    Whoever it is may be told by the way that leads there.
    """

    def __init__(self, tree, keeper, breaker):
        self.tree = tree
        self.keeper = keeper
        self.breaker = breaker


def settled_look(is_kept_there, whoever):
    """The Look where the saying is settled, and somebody comes to."""
    return Look(None, whoever, None) if is_kept_there else Look(None, None, whoever)


def joined_look(head, looks):
    """The Look at the place from which the trees of some others part."""
    keepers = [look.keeper for look in looks if look.keeper is not None]
    breakers = [look.breaker for look in looks if look.breaker is not None]
    trees = [look.tree for look in looks]
    return Look((*head, *trees), keepers[0] if keepers else None, breakers[0] if breakers else None)


def are_open(looks):
    """Whether some Looks found both somebody who keeps the saying and somebody who does not."""
    return any([look.keeper is not None for look in looks]) and any([look.breaker is not None for look in looks])
