"""Demands shared out among paces: the fewest paces that keep all of them, and a tree that shows that fewer do not.

What each pace keeps is known beforehand, a dict of the numbers of its demands: so
whether somebody keeps some demands is looked up, not searched again.
"""

from whosefirst.calling import pace_or_weights


def greatest_first(sets):
    """The numbers of those sets that are not within another one, of equal ones just the first; great sets first."""
    found = []
    for _, number in sorted([(-len(one), number) for number, one in enumerate(sets)]):
        if not any([is_within_set(sets[number], sets[other]) for other in found]):
            found.append(number)
    return found


def is_within_set(members, others):
    """Whether all members of a dict are among the others."""
    return all([member in others for member in members])


def fewest_sets(sets, members):
    """The numbers of the fewest sets that have all members."""
    many = 1
    found = sets_for(sets, members, many)
    while found is None:
        many = many + 1
        found = sets_for(sets, members, many)
    return found


def sets_for(sets, members, many):
    """The numbers of at most so many sets that have all members, None if so many do not."""
    if not members:
        return []
    if many == 0:
        return None
    # Some set must have the rarest member, so no others need to be tried.
    tries = [[at for at, one in enumerate(sets) if member in one] for member in members]
    for number in min(tries, key=len):
        found = sets_for(sets, [member for member in members if member not in sets[number]], many - 1)
        if found is not None:
            return [number, *found]
    return None


class Sharing:
    """What a tree for so many groups needs: the steps of the demands, the axes, and what paces keep."""

    def __init__(self, steps, axes, sets, groups):
        self.steps = steps
        self.axes = axes
        self.sets = sets
        self.groups = groups
        self.clashes = []
        for one in range(len(steps)):
            self.clashes.append(len([other for other in range(len(steps)) if not self.fits([one, other])]))

    def fits(self, group):
        """Whether one pace keeps all demands of a group."""
        return any([is_within_set(group, one) for one in self.sets])

    def tree_below(self, begun):
        """A right tree below the groups begun, lists of the numbers of demands, if so many groups do not do."""
        number = self.next_demand(begun)
        trees = [self.tree_with(begun, at, number) for at in range(len(begun))]
        if len(begun) < self.groups:
            trees.append(self.tree_below([*begun, [number]]))
        return ("put", number, trees)

    def tree_with(self, begun, at, number):
        """A right tree for a demand put into a group that is begun."""
        group = [*begun[at], number]
        if self.fits(group):
            return self.tree_below([*begun[:at], group, *begun[at + 1:]])
        _, weights = pace_or_weights([self.steps[member] for member in group], [">="] * len(group), self.axes)
        return ("nobody", at, weights)

    def next_demand(self, begun):
        """The number of the demand with the fewest groups left for it: so the tree stays small."""
        put = [member for group in begun for member in group]
        best, least = None, None
        for number in range(len(self.steps)):
            if number not in put:
                left = [group for group in begun if self.fits([*group, number])]
                mark = (len(left), -self.clashes[number])
                if best is None or mark < least:
                    best, least = number, mark
        return best
