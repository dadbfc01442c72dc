"""Point 6, whosefirst/chains.py and whosefirst/check_telling.py."""

from itertools import combinations, permutations

from helpers import Case, no_lists, no_names, no_values, short
from test_telling import reaches, some_books
from whosefirst.books import Book
from whosefirst.chains import LongChain, Messengers, fewest_messengers, longest_chain
from whosefirst.check_telling import shows_longest, shows_messengers
from whosefirst.errors import BadBook
from whosefirst.papers import Denial, Paper
from whosefirst.ratios import Ratio


def is_own_chain(book, names):
    return len(names) > 0 and all(reaches(book, one, other) for one, other in zip(names, names[1:]))


def is_own_crowd(book, names):
    return all(not reaches(book, one, other) and not reaches(book, other, one) for one, other in combinations(names, 2))


def own_messengers(book, chains, crowd):
    """Whether chains and a crowd are right, by the test's own look at them."""
    shared = sorted(name for chain in chains for name in chain) == list(book)
    known = len(set(crowd)) == len(crowd) and all(name in book for name in crowd)
    return shared and all(is_own_chain(book, chain) for chain in chains) and known and is_own_crowd(book, crowd) and len(crowd) == len(chains)


def own_longest(book, chain, crowds):
    shared = sorted(name for crowd in crowds for name in crowd) == list(book)
    known = all(name in book for name in chain)
    return shared and all(crowd and is_own_crowd(book, crowd) for crowd in crowds) and known and is_own_chain(book, chain) \
        and len(chain) == len(crowds)


def greatest(book, fits):
    """How many names the greatest list that fits has, all being tried."""
    return max(many for many in range(1, len(book) + 1) if any(fits(book, names) for names in combinations(in_time(book), many)))


def in_time(book):
    return sorted(book, key=lambda name: (book.spot_of(name).time.top, name))


def lists_of(part):
    return [list(names) for names in part]


THREE = Book(1, {"a": (0, [0]), "b": (1, [3]), "c": (2, [1])})


class Chains(Case):

    def test_fewest_messengers(self):
        for book in some_books():
            with self.subTest(book=str(book)):
                few = fewest_messengers(book)
                self.assertIs(type(few), Messengers)
                self.assertTrue(own_messengers(book, few.chains, few.crowd))
                self.assertEqual(len(few.chains), greatest(book, is_own_crowd))
                self.assertIs(shows_messengers(book, few), True)
                self.assertEqual(fewest_messengers(Book.read(str(book))), few)

    def test_longest_chain(self):
        for book in some_books():
            with self.subTest(book=str(book)):
                long = longest_chain(book)
                self.assertIs(type(long), LongChain)
                self.assertTrue(own_longest(book, long.chain, long.crowds))
                self.assertEqual(len(long.chain), greatest(book, is_own_chain))
                self.assertIs(shows_longest(book, long), True)
                self.assertEqual(longest_chain(Book.read(str(book))), long)

    def test_one_happening(self):
        for axes in (1, 2, 3):
            book = Book(axes, {"x": (1, [1] * axes)})
            self.assertEqual(fewest_messengers(book=book), Messengers([["x"]], ["x"]))
            self.assertEqual(longest_chain(book=book), LongChain(["x"], [["x"]]))

    def test_eight_of_one_place_of_one_time_of_one_light(self):
        place = Book(1, {f"n{at}": (7 - at, [0]) for at in range(8)})
        time = Book(2, {f"n{at}": (0, [at, at * at]) for at in range(8)})
        light = Book(1, {f"n{at}": (at, [-at]) for at in range(8)})
        for book, chains in ((place, 1), (time, 8), (light, 1)):
            self.assertEqual((len(fewest_messengers(book).chains), len(longest_chain(book).chain)), (chains, 9 - chains if chains == 1 else 1))
        self.assertEqual(longest_chain(place).chain, tuple(f"n{at}" for at in range(7, -1, -1)))

    def test_whoever_follows_may_have_to_follow_another_one(self):
        # b follows a at first; but then c has nobody, and a could take d.
        book = Book(1, {"a": (0, [0]), "b": (3, [2]), "c": (0, [4]), "d": (3, [-2])})
        self.assertEqual(len(fewest_messengers(book).chains), 2)
        self.assertTrue(own_messengers(book, fewest_messengers(book).chains, fewest_messengers(book).crowd))

    def test_papers(self):
        few = Messengers(crowd=["b"], chains=[["a"], ["b", "c"]])
        self.assertEqual((few.word, few.parts, few.chains, few.crowd), ("messengers", ((("a",), ("b", "c")), ("b",)), (("a",), ("b", "c")), ("b",)))
        long = LongChain(crowds=[["a"], ("b",)], chain=["a"])
        self.assertEqual((long.word, long.parts, long.chain, long.crowds), ("longchain", (("a",), (("a",), ("b",))), ("a",), (("a",), ("b",))))
        self.assertEqual([bool(few), bool(long)], [True, True])
        self.assertEqual(Messengers([["a"]], ["a"]), Messengers((("a",),), ("a",)))
        self.differs(Messengers([["a"]], ["a"]), [LongChain([["a"]], ["a"]), Paper("messengers", [["a"]], ["a"]), Messengers([["a"]], ["b"]),
                                                  Messengers([["b"]], ["a"])])

    def test_wrong_books(self):
        for call in (fewest_messengers, longest_chain):
            self.refuses_each(BadBook("book"), call, no_values())
        for call in (shows_messengers, shows_longest):
            self.refuses_each(BadBook("book"), lambda value: call(value, None), no_values())

    def test_shown_in_any_order_but_that_of_a_chain(self):
        for chains in permutations([["b"], ["a", "c"]]):
            for crowd in (["b", "c"], ["c", "b"], ("a", "b")):
                self.assertIs(shows_messengers(THREE, Messengers(chains, crowd)), True)
        self.assertIs(shows_messengers(value=Messengers([["b"], ["c", "a"]], ["c", "b"]), book=THREE), False)
        for crowds in ([["a", "b"], ["c"]], [["c"], ["b", "a"]], [["a"], ["c", "b"]]):
            self.assertIs(shows_longest(THREE, LongChain(("a", "c"), crowds)), True)
        self.assertIs(shows_longest(value=LongChain(["c", "a"], [["a", "b"], ["c"]]), book=THREE), False)

    def test_what_is_not_right(self):
        wrong = [Messengers([["a", "c"]], ["a"]), Messengers([["a"], ["c"]], ["b", "c"]), Messengers([["a", "c"], ["b", "b"]], ["a", "b"]),
                 Messengers([["a", "c"], ["b"], ["b"]], ["a", "b"]), Messengers([["a", "c"], ["b"], []], ["a", "b"]),
                 Messengers([["a", "c"], ["b"]], ["a", "c"]), Messengers([["a", "c"], ["b"]], ["a", "a"]), Messengers([["a", "c"], ["b"]], ["b"]),
                 Messengers([["a", "c"], ["b"]], ["b", "d"]), Messengers([["a", "c"], ["b", "d"]], ["b", "a"]), Messengers([["a", "b", "c"]], ["b"]),
                 Messengers([["a"], ["b"], ["c"]], ["a", "b", "c"]), Messengers([], []), Messengers(["ac", "b"], ["a", "b"]),
                 Messengers([["a", "c"], "b"], ["a", "b"]), Messengers([["a", "c"], ["b"]], "ab"), Messengers([["a", "c"], ["b"]], [["a"], ["b"]]),
                 Messengers([[["a", "c"]], ["b"]], ["a", "b"]), Messengers([["a", "c", "c"], ["b"]], ["a", "b"])]
        for value in wrong:
            self.assertIs(shows_messengers(THREE, value), False)
        wrong = [LongChain(["a"], [["a", "b", "c"]]), LongChain(["a", "c"], [["a", "b"], ["b", "c"]]), LongChain(["a", "c"], [["a", "b"]]),
                 LongChain(["a", "c"], [["a", "b"], ["c"], []]), LongChain(["a", "b"], [["a", "b"], ["c"]]), LongChain(["a"], [["a", "b"], ["c"]]),
                 LongChain([], []), LongChain(["a", "d"], [["a", "b"], ["c"]]), LongChain(["a", "c"], [["a", "b"], ["c", "d"]]),
                 LongChain(["a", "a"], [["a", "b"], ["c"]]), LongChain("ac", [["a", "b"], ["c"]]), LongChain(["a", "c"], ["ab", "c"]),
                 LongChain(["a", "c"], [["a", "c"], ["b"]]), LongChain(["a", "c"], [["a", "b"], ["c", "c"]]), LongChain(["a", "c"], [["a"], ["b"], ["c"]]),
                 LongChain(["a", "b", "c"], [["a"], ["b"], ["c"]]), LongChain([["a"], ["c"]], [["a", "b"], ["c"]]), LongChain(["a", "c"], [[], ["a", "b", "c"]])]
        for value in wrong:
            self.assertIs(shows_longest(THREE, value), False)

    def test_any_values_in_papers(self):
        for value in [*[value for value in no_lists() if type(value) is not str], "", "ab", *no_names(), [], [[]], [[[]]]]:
            with self.subTest(value=short(value)):
                for paper in (Messengers(value, ["a", "b"]), Messengers([["a", "c"], value], ["a", "b"]), Messengers([["a", value], ["b"]], ["a", "b"]),
                              Messengers([["a", "c"], ["b"]], value), Messengers([["a", "c"], ["b"]], ["b", value]), Messengers(value, value)):
                    self.assertIs(shows_messengers(THREE, paper), False)
                for paper in (LongChain(value, [["a", "b"], ["c"]]), LongChain(["a", value], [["a", "b"], ["c"]]), LongChain(["a", "c"], value),
                              LongChain(["a", "c"], [["a", "b"], value]), LongChain(["a", "c"], [["a", "b"], ["c", value]]), LongChain(value, value)):
                    self.assertIs(shows_longest(THREE, paper), False)

    def test_only_these_papers_are_right(self):
        chains, crowd = [["b"], ["a", "c"]], ["c", "b"]
        for value in [*no_values(), Paper("messengers", chains, crowd), Denial("messengers", chains, crowd), LongChain(chains, crowd), (chains, crowd),
                      {"chains": chains, "crowd": crowd}]:
            self.assertIs(shows_messengers(THREE, value), False)
        chain, crowds = ["a", "c"], [["a", "b"], ["c"]]
        for value in [*no_values(), Paper("longchain", chain, crowds), Messengers(chain, crowds), Messengers(crowds, chain), (chain, crowds)]:
            self.assertIs(shows_longest(THREE, value), False)

    def test_bent_papers_of_chains(self):
        for book in some_books():
            few = fewest_messengers(book)
            for chains in bent(lists_of(few.chains), list(book)):
                self.assertIs(shows_messengers(book, Messengers(chains, few.crowd)), own_messengers(book, chains, few.crowd))
            for crowd in bent([list(few.crowd)], list(book)):
                if len(crowd) == 1:
                    self.assertIs(shows_messengers(book, Messengers(few.chains, crowd[0])), own_messengers(book, few.chains, crowd[0]))

    def test_bent_papers_of_crowds(self):
        for book in some_books():
            long = longest_chain(book)
            for crowds in bent(lists_of(long.crowds), list(book)):
                self.assertIs(shows_longest(book, LongChain(long.chain, crowds)), own_longest(book, long.chain, crowds))
            for chain in bent([list(long.chain)], list(book)):
                if len(chain) == 1:
                    self.assertIs(shows_longest(book, LongChain(chain[0], long.crowds)), own_longest(book, chain[0], long.crowds))

    def test_a_right_paper_need_not_be_the_one_that_is_told(self):
        book = Book(1, {"a": (0, [0]), "b": (0, [9]), "c": (Ratio(1, 2), [0]), "d": (1, [9])})
        for chains in ([["a", "c"], ["b", "d"]], [["b", "d"], ["a", "c"]]):
            for crowd in (["a", "b"], ["a", "d"], ["c", "b"], ["d", "c"]):
                self.assertIs(shows_messengers(book, Messengers(chains, crowd)), True)


def bent(lists, names):
    """The lists with one thing changed: a name left out, put in, exchanged, two exchanged, a list cut, left out, doubled, turned."""
    found = []

    def copied():
        found.append([list(part) for part in lists])
        return found[-1]

    for at, part in enumerate(lists):
        del copied()[at]
        copied()[at].reverse()
        copied().append(list(part))
        copied().append([])
        for place in range(len(part)):
            del copied()[at][place]
            cut = copied()
            cut[at:at + 1] = [part[:place], part[place:]]
            for name in [*names, "other"]:
                copied()[at].insert(place, name)
                copied()[at][place] = name
            for to in range(len(lists)):
                moved = copied()
                moved[to].append(moved[at].pop(place))
    return found
