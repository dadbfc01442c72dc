"""The turned parts of a table that is of a book on a road, and one pattern made of them."""

from whosefirst.tables import are_apart, does_lead, leaders_from


def tree_of_parts(table, names):
    """The tree of the turned parts of some names, ascending, which are a part of a table."""
    if len(names) == 1:
        return names[0]
    parts = joined_by(names, lambda one, other: not are_apart(table, one, other))
    if len(parts) > 1:
        return ("beside", *trees_of_parts(table, parts))
    parts = joined_by(names, lambda one, other: are_apart(table, one, other))
    if len(parts) > 1:
        return ("behind", *trees_of_parts(table, in_order_of_reach(table, parts)))
    # Two names are in one part just if no other names must be in it with them until all are.
    parts = joined_by(names, lambda one, other: len(least_part(table, names, [one, other])) < len(names))
    return ("bound", *trees_of_parts(table, parts))


def trees_of_parts(table, parts):
    """The trees of some parts."""
    return [tree_of_parts(table, part) for part in parts]


def joined_by(names, are_joined):
    """Names shared out, so that two that are joined, perhaps by others, are in one part; all ascending."""
    parts = []
    left = list(names)
    while left:
        part = [left[0]]
        # The part grows while it is gone through, so by its numbers.
        at = 0
        while at < len(part):
            part = part + [name for name in left if name not in part and are_joined(part[at], name)]
            at = at + 1
        parts.append(sorted(part))
        left = [name for name in left if name not in part]
    return parts


def in_order_of_reach(table, parts):
    """Parts each of which reaches all behind it, or is reached by it, as they reach one another."""
    reached = [len([part for part in parts if does_lead(table, first[0], part[0])]) for first in parts]
    most_first = sorted([(-many, number) for number, many in enumerate(reached)])
    return [parts[number] for _, number in most_first]


def least_part(table, names, members):
    """The least part among some names that has all of these members."""
    part = list(members)
    telling = names_telling(table, names, part)
    while telling:
        part = part + telling
        telling = names_telling(table, names, part)
    return part


def names_telling(table, names, part):
    """The names outside a part that tell its names from one another."""
    others = [name for name in names if name not in part]
    return [name for name in others if not all([is_like(table, name, part[0], member) for member in part])]


def is_like(table, name, one, other):
    """Whether two names stand in one way to a third one."""
    if does_lead(table, name, one) != does_lead(table, name, other):
        return False
    return does_lead(table, one, name) == does_lead(table, other, name)


def first_sides(table, tree):
    """The sides of one pattern of the names of a tree."""
    if isinstance(tree, str):
        return []
    parts = [names_below(below) for below in tree[1:]]
    sides = [side for below in tree[1:] for side in first_sides(table, below)]
    pairs = [(one, other) for at, part in enumerate(parts) for one in part for more in parts[at + 1:] for other in more]
    if tree[0] == "beside":
        return sides + pairs
    apart = [(one, other) for one, other in pairs if are_apart(table, one, other)]
    # In a "bound" all sides between parts go with one of them, or with its opposite.
    return sides + list(leaders_from(table, apart[0])) if apart else sides


def names_below(tree):
    """All names of a tree."""
    if isinstance(tree, str):
        return [tree]
    return [name for below in tree[1:] for name in names_below(below)]
