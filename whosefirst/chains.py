"""Chains and crowds: the fewest messengers, the longest chain."""

from whosefirst.books import ask_book
from whosefirst.lots import order_by
from whosefirst.papers import Paper
from whosefirst.telling import does_reach


class Messengers(Paper):
    """Chains that share out all names, and a crowd of as many names."""

    def __init__(self, chains, crowd):
        super().__init__("messengers", chains, crowd)
        self.chains = self.parts[0]
        self.crowd = self.parts[1]


class LongChain(Paper):
    """A chain, and as many crowds as it has names, that share out all names."""

    def __init__(self, chain, crowds):
        super().__init__("longchain", chain, crowds)
        self.chain = self.parts[0]
        self.crowds = self.parts[1]


def fewest_messengers(book):
    """A Messengers: the fewest chains that share out all names, and a crowd of as many."""
    ask_book(book)
    reach = reach_of(book)
    leader = leaders(reach)
    return Messengers(chains_by(leader, book.names), crowd_by(leader, reach))


def reach_of(book):
    """For each name the ascending list of the names that it reaches."""
    return {one: [other for other in book if does_reach(book, one, other)] for one in book}


def leaders(reach):
    """For each name that follows another one in a chain this other one: as many as can be follow."""
    leader = {}
    for name in reach:
        find_follower(name, reach, leader, {})
    return leader


def find_follower(name, reach, leader, tried):
    """Whether a name gets a follower that it reaches; who leads that one already may get another one."""
    for other in reach[name]:
        if other not in tried:
            tried[other] = True
            if other not in leader or find_follower(leader[other], reach, leader, tried):
                leader[other] = name
                return True
    return False


def chains_by(leader, names):
    """The chains that are made by who leads whom."""
    follower = {leader[name]: name for name in leader}
    chains = []
    for name in names:
        if name not in leader:
            chain = [name]
            while chain[-1] in follower:
                chain.append(follower[chain[-1]])
            chains.append(chain)
    return chains


def crowd_by(leader, reach):
    """A crowd of as many names as there are chains: of those come to, the ones that none come to reaches."""
    leading = list(leader.values())
    come_to = [name for name in reach if name not in leading]
    at = 0
    while at < len(come_to):
        # No name here is without a leader: otherwise one more could follow.
        ahead = [leader[other] for other in reach[come_to[at]]]
        come_to = come_to + [name for name in ahead if name not in come_to]
        at = at + 1
    reached = [other for name in come_to for other in reach[name]]
    return sorted([name for name in come_to if name not in reached])


def longest_chain(book):
    """A LongChain: a longest chain, and as many crowds as it has names, that share out all names."""
    ask_book(book)
    heights = heights_of(book)
    top = max(list(heights.values()))
    crowds = [[name for name in book if heights[name] == height] for height in range(1, top + 1)]
    chain = [crowds[-1][0]]
    for crowd in reversed(crowds[:-1]):
        chain.append([name for name in crowd if does_reach(book, name, chain[-1])][0])
    return LongChain(list(reversed(chain)), crowds)


def heights_of(book):
    """For each name how many names the longest chain has that ends with it."""
    heights = {}
    # Whoever reaches a happening is earlier, so has its height by then.
    for lot in order_by({name: book.spot_of(name).time for name in book}):
        for name in lot:
            below = [heights[other] for other in heights if does_reach(book, other, name)]
            heights[name] = 1 + max(below, default=0)
    return heights
