"""Points 2 and 3 over the whole program: one test for each sentence that speaks of all files."""

import inspect
import random
from itertools import permutations

from helpers import Case, no_values, odd_values
from test_interface import LISTED, module_of
from whosefirst.beats import beats_left, echo_beats, middle_beats
from whosefirst.books import Book
from whosefirst.brought import bringers_of, brought_by, least_bringing
from whosefirst.called import called_order, called_worth
from whosefirst.callers import Nobody, Somebody, find_caller, keeps_rows, order_rows, weighted_step
from whosefirst.chains import LongChain, Messengers, fewest_messengers, longest_chain
from whosefirst.check_callers import shows_caller, shows_clash
from whosefirst.check_eyes import shows_eye_word, shows_seen
from whosefirst.check_orders import shows_called, shows_flat, shows_order, shows_records
from whosefirst.check_passers import shows_passers
from whosefirst.check_riders import shows_rider_word
from whosefirst.check_stories import shows_held, shows_struck, shows_sure
from whosefirst.check_tables import shows_placed
from whosefirst.check_telling import shows_longest, shows_messengers
from whosefirst.check_words import shows_word
from whosefirst.clashes import all_clashes, least_clash
from whosefirst.clocks import Tour, age_of_news, spot_at, straight_square
from whosefirst.desk import Desk
from whosefirst.errors import BadText
from whosefirst.eye_words import SeenRow, eye_word, sees_ahead, sees_first, truth_in
from whosefirst.eyes import Eye, eye_of, eye_place, seen_by, sight_of, weave_of
from whosefirst.flats import flats_of, orders_count
from whosefirst.news import first_news, left_to_right, light_right, meet_of
from whosefirst.orders import called_orders, caller_of
from whosefirst.paces import Pace
from whosefirst.papers import Denial, Paper
from whosefirst.parts import all_patterns, bond_of, patterns_count, turned_parts
from whosefirst.passers import Passers, fewest_passers, stretch_of
from whosefirst.placed import NoOrder, Placed, Ring, pattern_of, placed, placed_as
from whosefirst.ratios import Ratio, greatest_of, summed
from whosefirst.ready_sayings import ahead_of, first_among
from whosefirst.records import fewest_records, reach_read
from whosefirst.resting import resting_order, resting_orders
from whosefirst.rider_rows import RiderRow, SideRow, seen_ahead
from whosefirst.rider_words import rider_truth, rider_word
from whosefirst.riders import Rider, rider_mark, seen_order_of
from whosefirst.rows import Row
from whosefirst.sayings import Saying, all_of, of_row
from whosefirst.seen import SeenBy, Unseen, find_eye
from whosefirst.seen_counts import number_seen, seen_count, seen_number
from whosefirst.spans import Span
from whosefirst.steps import Step
from whosefirst.stories import Held, Mixed, Story, held
from whosefirst.sure import Against, Stretch, Struck, Sure, Unsure, fewest_struck, sure_paces, sure_row
from whosefirst.tables import Table, apart_in, sides_with
from whosefirst.telling import apart_pairs, kind_between, reached_pairs
from whosefirst.turns import is_between, turned_pairs, way_between
from whosefirst.weaves import Weave, lights_passed, woven_order
from whosefirst.words import Always, Never, Open, truth_at, word_of

HALF = Ratio(1, 2)
BOOK = Book(1, {"a": (0, [0]), "b": (1, [3]), "c": (2, [1])})
ROWS = [Row.ahead("a", "b"), Row.level("b", "c")]
STORY = Story(1, ["a", "b"], {"rest": Pace([0]), "fast": Pace([HALF])}, [("rest", Row.ahead("a", "b")), ("fast", Row.ahead("a", "b"))])
TABLE = Table(["a", "b", "c", "d"], [("a", "c"), ("b", "d"), ("b", "c")])
TOUR = Tour([(2, 1), (HALF, 1)])
RIDER = Rider(Pace([0]), 5)
EYE = Eye([(0, 0), (4, 2)])
SEEN = sees_ahead("a", "b")
CALLED = ahead_of("a", "b")
RIDDEN = seen_ahead("a", "b")

VALUES = [Ratio(1, 2), Step(2, [1]), Span.between("a", "b"), BOOK, Pace([HALF]), Row.ahead("a", "b"), CALLED, RIDER, RiderRow(Span({}), Span.between("a", "b"), ">"),
          SideRow("a", "left"), SeenRow("a", "b", ">"), TABLE, Weave("ub"), TOUR]
UNTOLD = [STORY, EYE, Desk(BOOK)]
PAPERS = [Somebody(Pace([0])), Nobody([1]), least_clash(BOOK, order_rows([["c"], ["b"], ["a"]])), Messengers([["a"]], ["a"]), LongChain(["a"], [["a"]]), Always(None), Never(None),
          Open(Pace([0]), Pace([HALF])), flats_of(BOOK)[0], called_orders(BOOK)[0], fewest_records(BOOK), Held([("a", Step(0, [0]))]), Mixed([1]), Sure([[1]]), Against([1]), Unsure([], []),
          Struck([], [], []), Stretch(0, 1, True, False), Placed(BOOK), NoOrder("a", "b", "c"), Ring([("a", "b")]), SeenBy(Weave("b")), Unseen([(0, 0)]), Passers([], [], [])]

# Calls whose arguments have lists, with the lists that are passed.
CALLS = [
    (Step, (0, [1])), (Book, (1, {"a": [0, [0]], "b": [1, [3]]})), (Pace, ([0],)), (summed, ([1, HALF],)), (greatest_of, ([1, HALF],)), (BOOK.kept, (["b", "a"],)),
    (meet_of, (BOOK, ["a", "b"])), (first_news, (BOOK, ["a", "b"])), (left_to_right, (BOOK, ["b", "a"])), (keeps_rows, (BOOK, Pace([0]), ROWS)), (find_caller, (BOOK, ROWS)),
    (weighted_step, (BOOK, ROWS, [1, HALF])), (order_rows, ([["a"], ["b", "c"]],)), (least_clash, (BOOK, ROWS)), (all_clashes, (BOOK, [*ROWS, Row.ahead("b", "a")])),
    (Saying, ([["row", ROWS[0]], ["not", 0], ["and", 0, 1]],)), (first_among, ("a", ["b", "c"])), (word_of, (BOOK, CALLED, [Row.ahead("b", "a")])), (caller_of, (BOOK, [["c"], ["a", "b"]])),
    (turned_pairs, ([["a"], ["b"]], [["b", "a"]])), (is_between, ([["a"], ["b"]], [["b"], ["a"]], [["b", "a"]])), (reach_read, ([[["a"], ["b"]], [["a", "b"]]],)),
    (rider_word, (BOOK, RIDDEN, [SideRow("a", "left")])), (Story, (1, ["a", "b"], {"t": Pace([0])}, [["t", ROWS[0]]])), (Table, (["a", "b", "c"], [["a", "b"]])),
    (placed_as, (TABLE, [["a", "b"], ["a", "d"], ["c", "d"]])), (Eye, ([[0, 0], [4, 2]],)), (find_eye, (BOOK, [["a"], ["c"], ["b"]])), (brought_by, (BOOK, ["b", "a"])),
    (least_bringing, (BOOK, ["b", "a"])), (number_seen, (BOOK, [["a"], ["c"], ["b"]])), (sees_first, ("a", ["b", "c"])), (truth_in, ([["a"], ["b", "c"]], SEEN)),
    (eye_word, (BOOK, SEEN, [["a"]])), (stretch_of, (BOOK, ROWS[:1])), (fewest_passers, (BOOK, [[ROWS[0]], [Row.ahead("b", "a")], []])), (Tour, ([[2, 1], [HALF, 1]],)),
    (Desk, (BOOK, ["put d 5 5"])), (Desk(BOOK).run, (["show", "strict"],)),
    (shows_messengers, (BOOK, fewest_messengers(BOOK))), (shows_caller, (BOOK, ROWS, find_caller(BOOK, ROWS))), (shows_order, (BOOK, [["c"], ["b"], ["a"]], Nobody([1, 1]))),
    (shows_word, (BOOK, CALLED, [ROWS[0]], Always(None))), (shows_rider_word, (BOOK, RIDDEN, [SideRow("a", "left")], Never(None))), (shows_seen, (BOOK, [["a"], ["c"], ["b"]], SeenBy(Weave("bbb")))),
    (shows_eye_word, (BOOK, SEEN, [["a"]], Always(None))), (shows_passers, (BOOK, [[ROWS[0]]], Passers([Pace([0])], [0], []))),
]


def in_tuples(value):
    """A value with tuples in the place of lists, all the way in."""
    if type(value) in (list, tuple):
        return tuple(in_tuples(part) for part in value)
    return {key: in_tuples(value[key]) for key in value} if type(value) is dict else value


def in_ratios(value):
    """A value with Ratios in the place of integers, as far as these stand for ratios here."""
    if type(value) in (list, tuple):
        return type(value)(in_ratios(part) for part in value)
    if type(value) is dict:
        return {key: in_ratios(value[key]) for key in value}
    return Ratio(value) if type(value) is int else value


class Whole(Case):

    def test_what_is_returned_and_kept_is_a_ratio(self):
        ratios = [*Step(2, [1]).place, Step(2, [1]).time, Step(2, [1]).square, Pace([0]).square, *Pace([0]).parts, called_worth(BOOK, Pace([0]), Span.between("a", "b")), light_right(BOOK, "a"),
                  *meet_of(BOOK, ["a"]), summed([]), summed([1]), greatest_of([1]), RIDER.stand, RIDER.p, RIDER.q, rider_mark(BOOK, RIDER, "a"), *[number for pair in EYE.corners for number in pair],
                  eye_place(EYE, 0), sight_of(BOOK, EYE, "a").time, *lights_passed(BOOK)[0], *lights_passed(BOOK)[1], *[place for _, place in resting_orders(BOOK)], stretch_of(BOOK, []).low,
                  stretch_of(BOOK, []).high, *[number for part in TOUR.parts for number in part], TOUR.age, straight_square(TOUR), spot_at(TOUR, 1).time, age_of_news(TOUR, Step(0, [0])),
                  beats_left(1, 1, 1), echo_beats(1, 1, 0), middle_beats(1, 1, 1), Span({"a": 1, "b": -1}).number_of("a"), Span({"a": 1, "b": -1}).number_of("z"), Ratio.of(3), abs(Ratio(-1)),
                  sure_paces(STORY, Span.between("a", "b")).low, *held(STORY).spots[1][1].place, *fewest_passers(BOOK, [[ROWS[0]], [Row.ahead("b", "a")]]).apart[0][2]]
        self.are_all_ratios(tuple(ratios))

    def test_numbers_of_things_axes_signs_and_indexes_are_integers(self):
        numbers = [BOOK.axes, len(BOOK), Step(2, [1]).axes, Pace([0]).axes, Ratio(1, 2).sign, Ratio(1, 2).top, orders_count(BOOK), flats_of(BOOK)[0].number, patterns_count(TABLE), seen_count(BOOK),
                   number_seen(BOOK, [["a"], ["c"], ["b"]]), *fewest_passers(BOOK, [[ROWS[0]], []]).who, *fewest_struck(STORY.with_report("fast", Row.ahead("b", "a"))).numbers, STORY.axes,
                   *find_eye(BOOK, [["b"], ["c"], ["a"]]).parts[0][0]]
        self.assertEqual([type(number) for number in numbers], [int] * len(numbers))

    def test_integers_of_any_size(self):
        great = 10 ** 400
        self.assertEqual(Ratio(great, great), 1)
        self.assertEqual(kind_between(Book(1, {"a": (0, [0]), "b": (great + 1, [great])}), "a", "b"), "forward")
        self.assertEqual(Tour([(1, great)]).age, great)
        self.assertEqual(Eye([(0, 0), (great, great - 1)]).corners[1][0], great)
        self.assertEqual(resting_order(Book(1, {"a": (0, [0]), "b": (great, [great])}), -great), (("a",), ("b",)))

    def test_true_and_false_are_no_numbers(self):
        for value in (True, False):
            for call in (lambda: Ratio(value), lambda: Step(value, [0]), lambda: Book(value, {}), lambda: Pace([value]), lambda: Span({"a": value, "b": -1}), lambda: Eye([(value, 0)]),
                         lambda: Tour([(value, 1)]), lambda: Tour([(1, value)]), lambda: seen_number(BOOK, value), lambda: resting_order(BOOK, value), lambda: echo_beats(1, 1, value),
                         lambda: Rider(Pace([0]), value), lambda: spot_at(TOUR, value), lambda: eye_place(EYE, value), lambda: STORY.without(value), lambda: Story(value, ["a"], {}, [])):
                with self.assertRaises(ValueError):
                    call()

    def test_names_are_ordered_as_strings_are(self):
        names = ["a10", "a2", "b", "a", "a1"]
        due = ("a", "a1", "a10", "a2", "b")
        book = Book(1, {name: (0, [at]) for at, name in enumerate(names)})
        self.assertEqual([book.names, tuple(book), called_order(book, Pace([0]))[0], Table(names, []).names, Story(1, names[:4], {}, []).names, seen_by(book, Eye([(-9, 50)]))[0]],
                         [due, due, due, due, ("a", "a10", "a2", "b"), ("a1",)])
        self.assertEqual(Span({name: 1 if name != "b" else -4 for name in names}).names, due)
        self.assertEqual(apart_pairs(book)[:2], (("a", "a1"), ("a", "a10")))

    def test_the_order_of_the_keys_of_a_dict_means_nothing(self):
        spots = {"a": (0, [0]), "b": (1, [3]), "c": (2, [1])}
        for names in permutations(spots):
            turned = {name: spots[name] for name in names}
            self.assertEqual((Book(1, turned), str(Book(1, turned)), list(Book(1, turned))), (BOOK, str(BOOK), ["a", "b", "c"]))
            self.assertEqual(find_caller(Book(1, turned), ROWS), find_caller(BOOK, ROWS))
            self.assertEqual(str(Span({name: at for name, at in zip("abc", (1, 2, -3))})), str(Span({name: {"a": 1, "b": 2, "c": -3}[name] for name in names})))
            self.assertEqual(BOOK.renamed({name: name + "x" for name in names}), BOOK.renamed({"a": "ax", "b": "bx", "c": "cx"}))

    def test_lists_and_tuples_stand_for_one_another(self):
        for call, values in CALLS:
            with self.subTest(call=str(call)):
                self.assertEqual(call(*in_tuples(values)), call(*values))
                self.assertEqual(type(call(*in_tuples(values))), type(call(*values)))

    def test_tuples_are_returned(self):
        for value in (order_rows([["a"], ["b"]]), called_order(BOOK, Pace([0])), reached_pairs(BOOK), all_clashes(BOOK, ROWS), flats_of(BOOK), called_orders(BOOK), way_between(BOOK, Pace([0]), Pace([0])),
                      apart_in(TABLE), sides_with(TABLE, "a", "b"), pattern_of(BOOK), turned_parts(TABLE), all_patterns(TABLE), lights_passed(BOOK), woven_order(BOOK, weave_of(BOOK, EYE)), seen_by(BOOK, EYE),
                      brought_by(BOOK, ["a"]), least_bringing(BOOK, ["a"]), bringers_of(BOOK, "a"), seen_number(BOOK, 0), resting_orders(BOOK), resting_order(BOOK, 0), TOUR.parts, TOUR.spots, EYE.corners,
                      Desk(BOOK).rows, Desk(BOOK).told_lines(), Desk(BOOK).kept_names(), seen_order_of(BOOK, RIDER), TABLE.names, TABLE.pairs, STORY.reports, reach_read([[["a"], ["b"]]])):
            self.is_tuple_throughout(value)
        self.assertEqual(type(Desk(BOOK).run([])), list)

    def is_tuple_throughout(self, value):
        self.assertNotIsInstance(value, list)
        if isinstance(value, tuple):
            for part in value:
                self.is_tuple_throughout(part)
        elif isinstance(value, Paper):
            self.is_tuple_throughout(value.parts)

    def test_what_is_passed_is_neither_changed_nor_kept(self):
        for call, values in CALLS:
            with self.subTest(call=str(call)):
                passed = copied(values)
                result = call(*passed)
                self.assertEqual(passed, values)
                self.empty(passed)
                self.assertEqual(result, call(*values))

    def empty(self, value):
        """Empties all lists and dicts within, from the inside."""
        if type(value) in (list, tuple):
            for part in value:
                self.empty(part)
        if type(value) is dict:
            for part in value.values():
                self.empty(part)
        if type(value) in (list, dict):
            value.clear()

    def test_equal_arguments_have_equal_answers(self):
        for call, values in CALLS:
            with self.subTest(call=str(call)):
                self.assertEqual(call(*copied(values)), call(*values))
        numbers = [(Step, (0, [1])), (Pace, ([0],)), (summed, ([1, 2],)), (weighted_step, (BOOK, ROWS, [1, 2])), (Eye, ([[0, 0], [4, 2]],)), (Tour, ([[2, 1], [3, 1]],)), (eye_place, (EYE, 3)),
                   (resting_order, (BOOK, 2)), (echo_beats, (2, 3, 4)), (spot_at, (TOUR, 1)), (Rider.of_line, (2, 3)), (shows_caller, (BOOK, order_rows([["c"], ["b"], ["a"]]), Nobody([1, 1])))]
        for call, values in numbers:
            self.assertEqual(call(*in_ratios(values)), call(*values))

    def test_values_of_unlike_classes_are_unequal(self):
        every = [*VALUES, *UNTOLD, *PAPERS]
        self.assertEqual(len({type(value) for value in every}), len(every))
        for value in every:
            others = [other for other in every if other is not value]
            self.differs(value, others)
            self.differs(value, [other for other in no_values() if not isinstance(value, Ratio) or not isinstance(other, (int, Ratio))])
            self.assertTrue(value == value)

    def test_texts_there_and_back(self):
        for value in VALUES:
            cls = type(value)
            self.assertEqual(cls.read(str(value)), value)
            self.assertEqual(str(cls.read(str(value))), str(value))
            self.assertIsInstance(inspect.getattr_static(cls, "read"), (staticmethod, classmethod))

    def test_texts_with_a_word_too_many_or_too_few(self):
        for value in VALUES:
            cls, words = type(value), str(value).split(" ")
            for more in ("?", "A", "1/0"):
                self.refuses(BadText(0, len(words)), cls.read, " ".join([*words, more]))
            for at in range(len(words)):
                for word in ("?", "", "9" * 61, "\u0661"):
                    self.refuses(BadText(0, at), cls.read, " ".join([*words[:at], word, *words[at + 1:]]))
            self.refuses(BadText(0, 0), cls.read, " " + str(value))
            self.refuses(BadText(0, 0), cls.read, "")
            for no_text in [*odd_values(), 0, [str(value)], (str(value),), value]:
                self.refuses(BadText(0, 0), cls.read, no_text)
            if len(words) > 1 and cls not in (Weave, Pace, Step):
                self.refuses(BadText(0, len(words) - 1), cls.read, " ".join(words[:-1]))

    def test_texts_with_60_and_61_digits(self):
        long, longer = "9" * 60, "9" * 61
        for cls, text, word in ((Ratio, "{}", 0), (Ratio, "1/{}", 0), (Step, "1 -{}/8", 1), (Span, "a -{} b {}", 1), (Book, "1 a 0 {}", 3), (Pace, "1/{}", 0), (Row, "> a {} b -{}", 2),
                                (Rider, "0 {}", 1), (RiderRow, "riderrow = - ; a {} b -{}", 5), (Tour, "{} 1 , 1 1/{}", 0), (Saying, "row = a {} b -{}", 3)):
            self.assertEqual(str(cls.read(text.replace("{}", long))), text.replace("{}", long))
            self.refuses(BadText(0, word), cls.read, text.replace("{}", longer))
        # What is made of such numbers has a text, too, but one that cannot be read.
        self.refuses(BadText(0, 0), Tour.read, str(Tour([(10 ** 60, 1)])))
        self.assertEqual(str(Tour([(10 ** 60, 1)])), "1" + "0" * 60 + " 1")

    def test_what_shows_takes_any_value(self):
        pace, row = Pace([0]), ROWS[0]
        order = [["a"], ["b"], ["c"]]
        shows = [lambda value: shows_messengers(BOOK, value), lambda value: shows_longest(BOOK, value), lambda value: shows_caller(BOOK, ROWS, value), lambda value: shows_clash(BOOK, ROWS, value),
                 lambda value: shows_word(BOOK, CALLED, [], value), lambda value: shows_flat(BOOK, value), lambda value: shows_called(BOOK, value), lambda value: shows_order(BOOK, order, value),
                 lambda value: shows_records(BOOK, value), lambda value: shows_rider_word(BOOK, RIDDEN, [], value), lambda value: shows_held(STORY, value), lambda value: shows_sure(STORY, pace, row, value),
                 lambda value: shows_struck(STORY, value), lambda value: shows_placed(TABLE, value), lambda value: shows_seen(BOOK, order, value), lambda value: shows_eye_word(BOOK, SEEN, [], value),
                 lambda value: shows_passers(BOOK, [[row]], value)]
        self.assertEqual(len(shows), len([name for names in LISTED.values() for name in names if name.startswith("shows_")]))
        right = {True: 0, False: 0}
        for call in shows:
            for value in [*odd_values(), 0, 1, "", "a", [], (), {}, *VALUES, *UNTOLD]:
                self.assertIs(call(value), False)
            for paper in PAPERS:
                self.assertIsInstance(call(paper), bool)
                right[call(paper)] += 1
                for value in [*odd_values(), *VALUES[:6], deep(60), deep(60, "cut"), deep(60, "side"), deep(30, "put"), deep(30, "nobody")]:
                    bent = type(paper)(*[value] * len(paper.parts))
                    self.assertIsInstance(call(bent), bool)
                    for at in range(len(paper.parts)):
                        self.assertIsInstance(call(type(paper)(*paper.parts[:at], [value], *paper.parts[at + 1:])), bool)
        self.assertGreater(right[True], 3)

    def test_papers(self):
        """Each class of papers: a word, parts in the order of its parameters, attributes of their names, true but for denials."""
        classes = {type(paper) for paper in PAPERS}
        listed = {value for file in LISTED for value in vars(module_of(file)).values() if inspect.isclass(value) and issubclass(value, Paper) and value not in (Paper, Denial)}
        self.assertEqual(classes, listed)
        for cls in classes:
            names = list(inspect.signature(cls).parameters)
            values = [[at, [at]] for at in range(len(names))]
            paper = cls(**dict(reversed(list(zip(names, values)))))
            self.assertEqual((paper.word, paper.parts), (cls.__name__.lower(), tuple((at, (at,)) for at in range(len(names)))))
            self.assertEqual([getattr(paper, name) for name in names], list(paper.parts))
            self.assertEqual(paper, cls(*in_tuples(values)))
            self.assertIs(bool(paper), not issubclass(cls, Denial))

    def test_errors_change_nothing(self):
        before = [str(value) for value in VALUES]
        for value in VALUES:
            for name in ("kept", "with_happening", "renamed", "joined", "mixed", "spot_of", "step_of"):
                if hasattr(value, name):
                    with self.assertRaises((ValueError, TypeError)):
                        getattr(value, name)(None)
        self.assertEqual([str(value) for value in VALUES], before)

    def test_calls_of_each_kind_once_more(self):
        """A call made again later has the answer that it had, whatever was asked in between."""
        source = random.Random(210)
        first = {at: call(*values) for at, (call, values) in enumerate(CALLS)}
        for at in source.sample(range(len(CALLS)), len(CALLS)):
            call, values = CALLS[at]
            self.assertEqual(call(*values), first[at])
        self.assertIs(truth_at(BOOK, CALLED, Pace([0])), True)
        self.assertIs(rider_truth(BOOK, RIDDEN, RIDER), False)
        self.assertEqual([fewest_messengers(BOOK), longest_chain(BOOK)], [fewest_messengers(BOOK), longest_chain(BOOK)])
        self.assertEqual([placed(TABLE), eye_of(BOOK, Weave("uuuwww")).corners], [placed(TABLE), eye_of(BOOK, Weave("uuuwww")).corners])
        self.assertEqual(bond_of(TABLE, "a", "b", "c", "d"), "together")
        self.assertEqual(sure_row(STORY, Pace([HALF]), ROWS[0]), sure_row(STORY, Pace([HALF]), ROWS[0]))
        self.assertEqual(all_of(of_row(ROWS[0]), of_row(ROWS[1])), Saying([("row", ROWS[0]), ("row", ROWS[1]), ("and", 0, 1)]))


def copied(value):
    """Lists, tuples and dicts made anew, all the way in."""
    if type(value) in (list, tuple):
        return type(value)(copied(part) for part in value)
    return {key: copied(value[key]) for key in value} if type(value) is dict else value


def deep(many, word=None):
    """Lists within lists, so many times, perhaps with a word ahead, as a tree might have it."""
    value = None
    for _ in range(many):
        value = {"cut": ["cut", 0, value, None, None], "side": ["side", "a", value, None], "put": ["put", 0, [value]], "nobody": ["nobody", [value]]}.get(word, [value])
    return value
