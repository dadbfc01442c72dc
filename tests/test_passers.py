"""Point 24, whosefirst/passers.py and whosefirst/check_passers.py."""

import random
from itertools import permutations

from bent import bent_papers
from helpers import Case, no_lists, no_values, short
from own import exact, holds, is_nobody, keeps, random_span, road_paces, sign_of, step_of, told_of, worth
from own_tables import random_road
from test_sayings import OwnRow
from whosefirst.books import Book
from whosefirst.callers import find_caller
from whosefirst.check_passers import shows_passers
from whosefirst.errors import BadBook, BadReport, BadRow, Impossible, NoHappening, TooMany, Unlike
from whosefirst.paces import Pace
from whosefirst.papers import Paper
from whosefirst.passers import Passers, fewest_passers, stretch_of
from whosefirst.ratios import Ratio
from whosefirst.rows import AnyRow, Row
from whosefirst.spans import Span
from whosefirst.sure import Stretch

KINDS = (">", ">=", "=")
HALF = Ratio(1, 2)
BOOK = Book(1, {"a": (0, [0]), "b": (1, [3]), "c": (2, [1])})
PLANE = Book(2, {"a": (0, [0, 0]), "b": (0, [1, 0])})
EARLY, LATE = Row.ahead("b", "a"), Row.ahead("c", "b")
LEVEL = Row(Span.between("a", "b"), "=")
STRANGE = Row.ahead("z", "y")


def random_account(source, book, most=3):
    return [Row(random_span(source, book.names), source.choice([">", ">", ">=", "="])) for _ in range(source.randint(0, most))]


def own_stretch(book, rows):
    """Low, high, and whether they are in, by each row's own cut; None for none."""
    low, high, low_in, high_in = -1, 1, False, False
    for row in rows:
        late, along = step_of(book, row.span)
        if not along:
            if not holds(row.kind, sign_of(late)):
                return None
            continue
        cut, is_in = late / along, row.kind != ">"
        if (along > 0 or row.kind == "=") and cut <= high:
            high, high_in = cut, is_in and (high_in or cut < high)
        if (along < 0 or row.kind == "=") and cut >= low:
            low, low_in = cut, is_in and (low_in or cut > low)
    if low > high or (low == high and not (low_in and high_in)):
        return None
    return low, high, low_in, high_in


def own_fewest(book, accounts):
    """The fewest passers, by all ways to share out the accounts."""
    paces = road_paces(book, [row for rows in accounts for row in rows])
    kept = [[keeps(book, pace, rows) for pace in paces] for rows in accounts]

    def share_out(number, groups):
        if number == len(accounts):
            return len(groups)
        best = len(accounts)
        for at, group in enumerate([*groups, [True] * len(paces)]):
            more = [one and other for one, other in zip(group, kept[number])]
            if any(more):
                best = min(best, share_out(number + 1, [*groups[:at], more, *groups[at + 1:]]))
        return best

    return share_out(0, [])


def is_passers(book, accounts, value):
    """Whether a Passers is right, by the tests' own sums."""
    if type(value) is not Passers or any(type(part) is not tuple for part in value.parts):
        return False
    if not all(type(pace) is Pace and pace.axes == 1 for pace in value.paces) or len(value.who) != len(accounts):
        return False
    if not all(type(number) is int and 0 <= number < len(value.paces) for number in value.who) or set(value.who) != set(range(len(value.paces))):
        return False
    if not all(keeps(book, value.paces[number], rows) for number, rows in zip(value.who, accounts)):
        return False
    pairs = []
    for triple in value.apart:
        if type(triple) is not tuple or len(triple) != 3 or not all(type(number) is int and 0 <= number < len(accounts) for number in triple[:2]):
            return False
        if not is_nobody(book, told_of([*accounts[triple[0]], *accounts[triple[1]]]), triple[2]):
            return False
        pairs.append(triple[:2])
    numbers = sorted({number for pair in pairs for number in pair})
    many = len(value.paces)
    if many < 2:
        return pairs == []
    return len(numbers) == many and sorted(pairs) == [(one, other) for one in numbers for other in numbers if one < other]


class Stretches(Case):

    def is_told_right(self, book, rows):
        stretch, due = stretch_of(book, rows), own_stretch(book, rows)
        if due is None:
            self.assertIs(stretch, None)
        else:
            self.assertIs(type(stretch), Stretch)
            self.are_all_ratios((stretch.low, stretch.high))
            self.assertEqual([type(stretch.is_low_in), type(stretch.is_high_in)], [bool, bool])
            self.assertEqual((exact(stretch.low), exact(stretch.high), stretch.is_low_in, stretch.is_high_in), due)
        for pace in road_paces(book, rows):
            part = exact(pace.parts[0])
            is_in = due is not None and (due[0] < part < due[1] or (part == due[0] and due[2]) or (part == due[1] and due[3]))
            self.assertEqual(keeps(book, pace, rows), is_in)
        return stretch

    def test_random_rows(self):
        source = random.Random(180)
        seen = {}
        for many in (2, 3, 4, 5, 8):
            for _ in range(60):
                book = random_road(source, many)
                stretch = self.is_told_right(book, random_account(source, book))
                mark = stretch and (stretch.is_low_in, stretch.is_high_in, stretch.low == stretch.high)
                seen[mark] = seen.get(mark, 0) + 1
        self.assertTrue({None, (False, False, False), (True, False, False), (False, True, False), (True, True, True)} <= set(seen))

    def test_somebody_keeps_the_rows_exactly_if_there_is_one(self):
        source = random.Random(181)
        for _ in range(80):
            book = random_road(source, source.randint(2, 5))
            rows = random_account(source, book, 4)
            self.assertEqual(stretch_of(book, rows) is not None, bool(find_caller(book, rows)))

    def test_by_hand(self):
        self.assertEqual([stretch_of(BOOK, [EARLY]).parts, stretch_of(BOOK, [LATE, EARLY]), stretch_of(rows=[LEVEL], book=BOOK).parts, stretch_of(BOOK, ()).parts],
                         [(Ratio(1, 3), 1, False, False), None, (Ratio(1, 3), Ratio(1, 3), True, True), (-1, 1, False, False)])
        gap = Span.between("a", "b")
        self.assertEqual(stretch_of(BOOK, [Row(-gap, ">=")]).parts, (Ratio(1, 3), 1, True, False))
        self.assertEqual(stretch_of(BOOK, [Row(gap, ">="), Row(-gap, ">=")]).parts, (Ratio(1, 3), Ratio(1, 3), True, True))
        self.assertIs(stretch_of(BOOK, [Row(gap, ">="), Row(-gap, ">")]), None)
        self.assertIs(stretch_of(BOOK, [LEVEL, Row(gap, ">")]), None)
        # Spans whose step has no place: all keep them, or none.
        lamp = Book(1, {"a": (0, [0]), "b": (2, [0])})
        for row, due in ((Row.ahead("a", "b"), True), (Row.level("a", "b"), False), (Row.ahead("b", "a"), False), (Row(Span({}), ">="), True), (Row(Span({}), "="), True), (Row(Span({}), ">"), False)):
            self.assertEqual(stretch_of(lamp, [row]), Stretch(-1, 1, False, False) if due else None)
        # As fast as light, and faster, is no pace.
        light = Book(1, {"a": (0, [0]), "b": (1, [1]), "c": (1, [2])})
        self.assertIs(stretch_of(light, [Row.level("a", "b")]), None)
        self.assertIs(stretch_of(light, [Row(Span.between("b", "a"), ">=")]), None)
        self.assertEqual([stretch_of(light, [Row(Span.between("a", "b"), kind)]) for kind in (">", ">=")], [Stretch(-1, 1, False, False)] * 2)
        self.assertEqual(stretch_of(light, [Row.ahead("c", "a")]), Stretch(HALF, 1, False, False))

    def test_24_and_25_rows(self):
        self.assertEqual(stretch_of(BOOK, [EARLY] * 24).parts, (Ratio(1, 3), 1, False, False))
        self.refuses(TooMany("rows", 24), stretch_of, BOOK, [EARLY] * 25)
        self.refuses(NoHappening("y"), stretch_of, BOOK, [EARLY] * 24 + [STRANGE])

    def test_wrong_values(self):
        self.refuses_each(BadBook("book"), lambda value: stretch_of(value, None), no_values())
        self.refuses_each(BadRow("rows"), lambda value: stretch_of(PLANE, value), no_lists())
        for value in [*no_values(), AnyRow(), OwnRow("x"), "> a -1 b 1"]:
            self.refuses(BadRow("rows"), stretch_of, PLANE, [STRANGE, value])
        self.refuses(Unlike("road"), stretch_of, PLANE, [STRANGE])
        self.refuses(NoHappening("y"), stretch_of, BOOK, [EARLY, STRANGE])


class FewestPassers(Case):

    def is_told_right(self, book, accounts, paper):
        self.assertTrue(is_passers(book, accounts, paper))
        self.assertIs(shows_passers(book, accounts, paper), True)
        for _, _, weights in paper.apart:
            self.are_all_ratios(weights)

    def test_random_accounts(self):
        source = random.Random(182)
        seen = {}
        for _ in range(160):
            book = random_road(source, source.randint(2, 5))
            accounts = [random_account(source, book, 2) for _ in range(source.randint(0, 6))]
            barred = [rows for rows in accounts if not find_caller(book, rows)]
            if barred:
                self.refuses(Impossible(find_caller(book, barred[0])), fewest_passers, book, accounts)
                seen[None] = seen.get(None, 0) + 1
                accounts = [rows for rows in accounts if find_caller(book, rows)]
            paper = fewest_passers(book, accounts)
            self.is_told_right(book, accounts, paper)
            self.assertEqual(len(paper.paces), own_fewest(book, accounts))
            seen[len(paper.paces)] = seen.get(len(paper.paces), 0) + 1
        self.assertTrue({None, 0, 1, 2, 3} <= set(seen))

    def test_by_hand(self):
        told = fewest_passers(accounts=[[EARLY], [LATE], [LEVEL]], book=BOOK)
        self.assertEqual([len(told.paces), told.paces[told.who[2]].parts, [triple[:2] for triple in told.apart]], [3, (Ratio(1, 3),), [(0, 1), (0, 2), (1, 2)]])
        self.is_told_right(BOOK, [[EARLY], [LATE], [LEVEL]], told)
        self.assertEqual(fewest_passers(BOOK, []).parts, ((), (), ()))
        for accounts in ([[]], ((), ()), [[EARLY], []], [[], [LATE], []]):
            paper = fewest_passers(BOOK, accounts)
            self.assertEqual((len(paper.paces), set(paper.who), paper.apart), (1, {0}, ()))
            self.is_told_right(BOOK, accounts, paper)
        self.assertEqual(len(fewest_passers(BOOK, [[LEVEL], [Row(Span.between("a", "b"), ">=")], [Row(Span.between("b", "a"), ">=")]]).paces), 1)
        # Ends that are not in: what is late and what is early share nobody, though both come near to one pace.
        self.assertEqual(len(fewest_passers(BOOK, [[EARLY], [Row.ahead("a", "b")]]).paces), 2)
        self.assertEqual(len(fewest_passers(BOOK, [[Row(Span.between("b", "a"), ">=")], [Row.ahead("a", "b")], [LEVEL]]).paces), 2)

    def test_ends_at_one_pace(self):
        """Of pieces that end at one pace that without it ends first: else all would seem to share one."""
        gap = Span.between("a", "b")
        till, short, just = [Row(gap, ">=")], [Row(gap, ">")], [Row(gap, "=")]
        for accounts in permutations([till, short, just]):
            paper = fewest_passers(BOOK, accounts)
            self.assertEqual(len(paper.paces), 2)
            self.is_told_right(BOOK, accounts, paper)
        for accounts in permutations([till, short, till, [*short, Row.ahead("a", "c")]]):
            self.assertEqual(len(fewest_passers(BOOK, accounts).paces), 1)
            self.is_told_right(BOOK, accounts, fewest_passers(BOOK, accounts))

    def test_bounds(self):
        accounts = [[EARLY] * 8, *[[LATE]] * 7]
        self.is_told_right(BOOK, accounts, fewest_passers(BOOK, accounts))
        self.refuses(TooMany("accounts", 8), fewest_passers, BOOK, [*accounts, [EARLY] * 9])
        self.refuses(TooMany("rows", 8), fewest_passers, BOOK, [[EARLY, LATE], [EARLY] * 9])
        self.refuses(Impossible(find_caller(BOOK, [EARLY, LATE])), fewest_passers, BOOK, [[EARLY], [EARLY, LATE], [Row.ahead("c", "a")]])
        self.refuses(NoHappening("y"), fewest_passers, BOOK, [[EARLY] * 9, [STRANGE]] * 9)

    def test_eight_accounts_of_eight_happenings(self):
        source = random.Random(183)
        for _ in range(6):
            book = random_road(source, 8, 9)
            accounts = []
            while len(accounts) < 8:
                rows = random_account(source, book, 8)
                pace = Pace([Ratio(source.randint(-9, 9), 10)])
                accounts.append([row for row in rows if holds(row.kind, sign_of(worth(book, pace, row.span)))])
            self.is_told_right(book, accounts, fewest_passers(book, accounts))

    def test_equal_calls_have_equal_answers(self):
        source = random.Random(184)
        for _ in range(20):
            book = random_road(source, 4)
            accounts = [rows for rows in [random_account(source, book, 2) for _ in range(5)] if find_caller(book, rows)]
            again = tuple(tuple(Row.read(str(row)) for row in rows) for rows in accounts)
            self.assertEqual(fewest_passers(Book.read(str(book)), again), fewest_passers(book, accounts))

    def test_wrong_values(self):
        for call in (fewest_passers, lambda book, accounts: shows_passers(book, accounts, None)):
            self.refuses_each(BadBook("book"), lambda value: call(value, None), no_values())
            self.refuses_each(BadReport("accounts"), lambda value: call(PLANE, value), no_lists())
            self.refuses_each(BadReport("accounts"), lambda value: call(PLANE, [[STRANGE], value]), [*no_lists(), EARLY])
            for value in [*no_values(), AnyRow(), OwnRow("x"), "> a -1 b 1"]:
                self.refuses(BadReport("accounts"), call, PLANE, [[STRANGE], [STRANGE, value]])
            self.refuses(Unlike("road"), call, PLANE, [[STRANGE]] * 9)
            self.refuses(NoHappening("x"), call, BOOK, [[STRANGE], [], [Row.ahead("a", "x")]])

    def test_papers(self):
        paper = Passers(apart=[[0, 1, [1]]], who=[0], paces=[])
        self.assertEqual([paper.word, bool(paper), paper.paces, paper.who, paper.apart, paper.parts], ["passers", True, (), (0,), ((0, 1, (1,)),), ((), (0,), ((0, 1, (1,)),))])
        self.differs(paper, [Paper("passers", [], [0], [[0, 1, [1]]]), Passers([], [0], [])])


class Shown(Case):

    def test_bent_papers(self):
        source = random.Random(185)
        looked = {True: 0, False: 0}
        for _ in range(50):
            book = random_road(source, source.randint(2, 4))
            accounts = [rows for rows in [random_account(source, book, 2) for _ in range(source.randint(0, 5))] if find_caller(book, rows)]
            papers = bent_papers(fewest_passers(book, accounts))
            for paper in papers if len(papers) < 60 else source.sample(papers, 60):
                due = is_passers(book, accounts, paper)
                with self.subTest(book=str(book), paper=short(paper.parts)):
                    self.assertIs(shows_passers(book, accounts, paper), due)
                looked[due] += 1
        self.assertGreater(min(looked.values()), 50)

    def test_by_hand(self):
        clash, fast, slow = [(0, 1, [Ratio(2, 5), Ratio(3, 5)])], Pace([HALF]), Pace([Ratio(-2, 3)])
        both = [[EARLY], [LATE]]
        self.assertIs(shows_passers(value=Passers([fast, slow], [0, 1], clash), accounts=both, book=BOOK), True)
        self.assertIs(shows_passers(BOOK, [[EARLY]], Passers([Pace([0])], [0], [])), False)
        self.assertIs(shows_passers(BOOK, both, Passers([slow, fast], [1, 0], clash)), True)
        for paces, who, apart in (([fast, slow], [1, 0], clash), ([fast, slow], [0, 0], clash), ([fast, slow, fast], [0, 1], clash), ([fast, slow], [0, 1], []), ([fast, slow], [0, 1], clash * 2),
                                  ([fast, slow], [0, 1], [(1, 0, [1, 1])]), ([fast, slow], [0, 1], [(0, 1, [1, 0])]), ([fast, slow], [0, 1], [(0, 0, [1, 1])]),
                                  ([fast, slow], [0, True], clash), ([fast, slow], [0, Ratio(1)], clash), ([fast, slow], [0, 1], [(False, 1, [2, 3])]), ([fast, slow], [0], clash),
                                  ([fast, slow], [0, 1, 1], clash), ([fast, Pace([Ratio(-2, 3), 0])], [0, 1], clash), ([fast, "-2/3"], [0, 1], clash), ([], [], []), (None, [0, 1], clash),
                                  ([fast, slow], None, clash), ([fast, slow], [0, 1], None), ([fast, slow], [0, 1], [None]), ([fast, slow], [0, 2], clash), ([fast, slow], [0, -1], clash)):
            self.assertIs(shows_passers(BOOK, both, Passers(paces, who, apart)), False)
        for weights, due in (([2, 3], True), ([1, 1], True), ([0, 1], False), ([-1, 1], False), ([2], False), ([2, 3, 0], False), ([2, True], False), (None, False)):
            self.assertIs(shows_passers(BOOK, both, Passers([fast, slow], [0, 1], [(0, 1, weights)])), due)

    def test_triples_in_any_order(self):
        accounts = [[EARLY], [LATE], [LEVEL]]
        paper = fewest_passers(BOOK, accounts)
        self.assertIs(shows_passers(BOOK, accounts, Passers(paper.paces, paper.who, paper.apart[::-1])), True)
        for some in (paper.apart[:2], [*paper.apart, paper.apart[0]], [paper.apart[0]] * 3):
            self.assertIs(shows_passers(BOOK, accounts, Passers(paper.paces, paper.who, some)), False)
        # The accounts told apart may be any of as many: here the fourth one in the place of the first.
        more = [*accounts, [EARLY]]
        apart = [(one if one else 3, other, weights) for one, other, weights in paper.apart]
        turned = [(min(one, other), max(one, other), weights if one < other else weights[::-1]) for one, other, weights in apart]
        self.assertIs(shows_passers(BOOK, more, Passers(paper.paces, [*paper.who, paper.who[0]], turned)), True)
        self.assertIs(shows_passers(BOOK, more, Passers(paper.paces, [*paper.who, paper.who[0]], [turned[0], *paper.apart[1:]])), False)

    def test_one_passer_and_none(self):
        self.assertIs(shows_passers(BOOK, [[], []], Passers([Pace([0])], [0, 0], ())), True)
        self.assertIs(shows_passers(BOOK, [], Passers([], [], [])), True)
        self.assertIs(shows_passers(BOOK, [], Passers([Pace([0])], [], [])), False)
        self.assertIs(shows_passers(BOOK, [[EARLY]], Passers([], [], [])), False)

    def test_beyond_the_bounds(self):
        accounts = [[EARLY] * 30] * 12
        self.assertIs(shows_passers(BOOK, accounts, Passers([Pace([HALF])], [0] * 12, [])), True)
        self.assertIs(shows_passers(BOOK, [[EARLY, LATE]], Passers([Pace([HALF])], [0], [])), False)

    def test_only_these_papers(self):
        for value in [*no_values(), Paper("passers", [], [], []), Stretch(-1, 1, False, False)]:
            self.assertIs(shows_passers(BOOK, [], value), False)
