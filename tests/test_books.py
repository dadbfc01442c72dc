"""Point 5 and whosefirst/books.py."""

import random
from itertools import combinations

from helpers import Case, no_dicts, no_integers, no_lists, no_names, no_ratios, no_values, short
from whosefirst.books import Book
from whosefirst.errors import (BadBook, BadNumber, BadOrder, BadSpan, NoHappening, SameSpot, TooMany, Twice, Unlike)
from whosefirst.ratios import Ratio
from whosefirst.spans import Span
from whosefirst.steps import Step

HALF = Ratio(1, 2)
SPOTS = {"b": (1, [3]), "a": (0, [0]), "c": (2, [1])}


def row_of(many, axes=1):
    """Spots of so many happenings, one beat behind one another."""
    return {f"n{at}": (at, [0] * axes) for at in range(many)}


class Books(Case):

    def test_attributes(self):
        book = Book(1, SPOTS)
        self.assertEqual((book.axes, book.names, len(book), list(book)), (1, ("a", "b", "c"), 3, ["a", "b", "c"]))
        self.assertIs(type(book.names), tuple)
        self.assertEqual([Book(axes, row_of(2, axes)).axes for axes in (1, 2, 3)], [1, 2, 3])
        self.assertEqual(Book(spots=SPOTS, axes=1), book)
        self.assertEqual([list(book), list(book), [name for name in book]], [["a", "b", "c"]] * 3)

    def test_one_and_eight_happenings(self):
        self.assertEqual(len(Book(3, {"z9": [HALF, (1, 2, 3)]})), 1)
        self.assertEqual(len(Book(1, row_of(8))), 8)
        self.refuses(TooMany("happenings", 8), Book, 1, row_of(9))
        self.refuses(TooMany("happenings", 8), Book, 1, {**row_of(20), "x": (0, [0])})

    def test_contains(self):
        book = Book(1, SPOTS)
        self.assertEqual([name in book for name in ("a", "b", "c", "d", "ab", "")], [True, True, True, False, False, False])
        for value in no_names():
            self.assertIs(value in book, False)

    def test_wrong_axes(self):
        for spots in (SPOTS, {}, None, row_of(9)):
            self.refuses_each(BadBook("axes"), lambda value: Book(value, spots), [*no_integers(), 0, -1, 4, 10 ** 20])

    def test_wrong_spots(self):
        self.refuses_each(BadBook("spots"), lambda value: Book(1, value), [*no_dicts(), {}])
        for key in (0, None, True, "", "A", "a" * 13, ("a",), b"a"):
            self.refuses(BadBook("spots"), Book, 1, {"a": (0, [0]), key: (1, [1])})
        pairs = [*no_lists(), [], [0], (0,), (0, 0), ([0], 0), (0, [0], 0), (0, [0], [0]), [0, "0"], (0, {0: 0}), (0, (0, 0)), (0, []), "01"]
        self.refuses_each(BadBook("spots"), lambda value: Book(1, {"a": value}), pairs)
        self.refuses_each(BadBook("spots"), lambda value: Book(1, {"a": (0, [0]), "b": value}), pairs)
        self.refuses_each(BadBook("spots"), lambda value: Book(1, {"a": (value, [0])}), no_ratios())
        self.refuses_each(BadBook("spots"), lambda value: Book(1, {"a": (0, value)}), [*no_lists(), [], [0, 0]])
        self.refuses_each(BadBook("spots"), lambda value: Book(2, {"a": (0, [0, value])}), no_ratios())
        for axes in (1, 2, 3):
            for many in (0, 1, 2, 3, 4):
                if many != axes:
                    self.refuses(BadBook("spots"), Book, axes, {"a": (0, [0] * axes), "b": (1, [0] * many)})

    def test_spots_are_looked_at_ahead_of_their_number(self):
        self.refuses(BadBook("spots"), Book, 1, {**row_of(9), "z": (0, [0, 0])})

    def test_one_time_and_place_twice(self):
        self.refuses(SameSpot("a", "b"), Book, 1, {"b": (1, [2]), "a": (1, (Ratio(4, 2),))})
        self.refuses(SameSpot("a", "c"), Book, 1, {"d": (0, [1]), "c": (0, [0]), "b": (0, [1]), "a": (0, [0])})
        self.refuses(SameSpot("a", "d"), Book, 1, {"a": (0, [0]), "b": (0, [1]), "c": (0, [1]), "d": (0, [0])})
        self.refuses(SameSpot("b", "c"), Book, 2, {"a": (0, [0, 1]), "b": (0, [1, 0]), "c": (0, [1, 0]), "d": (0, [1, 0])})
        self.refuses(SameSpot("c", "d"), Book, 1, {"a": (0, [0]), "b": (1, [0]), "c": (0, [1]), "d": (0, [1])})
        self.assertEqual(len(Book(1, {"a": (0, [0]), "b": (0, [1]), "c": (1, [0])})), 3)
        self.refuses(TooMany("happenings", 8), Book, 1, {f"n{at}": (0, [0]) for at in range(9)})

    def test_spot_of(self):
        book = Book(2, {"a": (HALF, [0, -1]), "b": (0, [0, 0])})
        self.assertEqual(book.spot_of("a"), Step(HALF, [0, -1]))
        self.assertEqual(book.spot_of(name="b").kind, "nothing")
        self.assertIs(type(book.spot_of("a")), Step)
        for value in [*no_names(), "d", "ab"]:
            self.refuses(NoHappening(value), book.spot_of, value)

    def test_step_of(self):
        book = Book(2, {"a": (1, [2, 3]), "b": (5, [HALF, 0]), "c": (0, [-1, 1])})
        self.assertEqual(book.step_of(Span.between("a", "b")), book.spot_of("b") - book.spot_of("a"))
        self.assertEqual(book.step_of(span=Span({"a": HALF, "b": 1, "c": Ratio(-3, 2)})), Step(Ratio(11, 2), [3, 0]))
        self.assertEqual(book.step_of(Span({})), Step.nothing(2))

    def test_steps_of_sums_and_multiples(self):
        source = random.Random(5)
        book = Book(3, {name: (source.randint(-5, 5), [source.randint(-5, 5) for _ in range(3)]) for name in "abcd"})
        for _ in range(30):
            spans = []
            for _ in range(2):
                numbers = [Ratio(source.randint(-3, 3), source.randint(1, 4)) for _ in range(3)]
                spans.append(Span(dict(zip("abcd", [*numbers, -(numbers[0] + numbers[1] + numbers[2])]))))
            one, other = spans
            self.assertEqual(book.step_of(one + other), book.step_of(one) + book.step_of(other))
            self.assertEqual(book.step_of(one - other), book.step_of(one) - book.step_of(other))
            self.assertEqual(book.step_of(one * Ratio(-2, 3)), book.step_of(one) * Ratio(-2, 3))

    def test_step_of_wrong_spans(self):
        book = Book(1, SPOTS)
        self.refuses_each(BadSpan("span"), book.step_of, no_values())
        self.refuses(NoHappening("d"), book.step_of, Span({"a": 1, "e": 1, "d": 1, "b": -3}))
        self.refuses(NoHappening("z"), book.step_of, Span.between("z", "a"))
        self.refuses(NoHappening("a"), Book(1, {"b": (0, [0])}).step_of, Span.between("c", "a"))

    def test_with_happening(self):
        book = Book(1, SPOTS)
        more = book.with_happening("bb", HALF, (-1,))
        self.assertEqual(str(more), "1 a 0 0 / b 1 3 / bb 1/2 -1 / c 2 1")
        self.assertEqual(book.with_happening(place=[5], time=0, name="z"), Book(1, {**SPOTS, "z": (0, [5])}))
        self.assertEqual(len(book), 3)
        self.assertEqual(len(Book(1, row_of(7)).with_happening("z", 0, [1])), 8)

    def test_with_happening_wrong(self):
        book, full = Book(1, SPOTS), Book(1, row_of(8))
        self.refuses_each(BadBook("name"), lambda value: book.with_happening(value, None, None), no_names())
        self.refuses_each(BadNumber("time"), lambda value: book.with_happening("d", value, None), no_ratios())
        self.refuses_each(BadNumber("place"), lambda value: book.with_happening("d", 0, value), no_lists())
        self.refuses_each(BadNumber("place"), lambda value: book.with_happening("a", 0, [value]), no_ratios())
        self.refuses_each(BadNumber("place"), lambda value: book.with_happening("a", 0, [0, value, 0, 0]), no_ratios())
        for place in ([], (0, 0), [0, 0, 0, 0]):
            self.refuses(Unlike("axes"), book.with_happening, "a", 0, place)
        self.refuses(Twice("a"), book.with_happening, "a", 1, [3])
        self.refuses(Twice("n0"), full.with_happening, "n0", 0, [9])
        self.refuses(TooMany("happenings", 8), full.with_happening, "z", 0, [0])
        self.refuses(SameSpot("b", "d"), book.with_happening, "d", 1, [3])
        self.refuses(SameSpot("a0", "b"), book.with_happening, "a0", 1, [3])

    def test_kept(self):
        book = Book(1, SPOTS)
        self.assertEqual(book.kept(["c", "a"]), Book(1, {"a": (0, [0]), "c": (2, [1])}))
        self.assertEqual(book.kept(names=("b",)).names, ("b",))
        self.assertEqual(book.kept(["b", "c", "a"]), book)
        self.assertEqual(book.names, ("a", "b", "c"))

    def test_kept_wrong(self):
        book = Book(1, SPOTS)
        self.refuses_each(BadOrder("names"), book.kept, [*no_lists(), [], ()])
        for value in [*no_names(), "d"]:
            self.refuses(NoHappening(value), book.kept, [value])
            self.refuses(NoHappening(value), book.kept, ("a", value, "a", "e"))
        self.refuses(NoHappening("e"), book.kept, ["a", "a", "e", "d"])
        self.refuses(Twice("b"), book.kept, ["a", "b", "b", "a"])

    def test_renamed(self):
        book = Book(1, SPOTS)
        self.assertEqual(str(book.renamed({"a": "c", "c": "a"})), "1 a 2 1 / b 1 3 / c 0 0")
        self.assertEqual(str(book.renamed({"a": "b", "b": "c", "c": "z9"})), "1 b 0 0 / c 1 3 / z9 2 1")
        self.assertEqual(str(book.renamed(names={"b": "a0"})), "1 a 0 0 / a0 1 3 / c 2 1")
        self.assertEqual(book.renamed({}), book)
        self.assertEqual(book.renamed({"a": "a"}), book)

    def test_renamed_wrong(self):
        book = Book(1, SPOTS)
        self.refuses_each(BadBook("names"), book.renamed, no_dicts())
        self.refuses_each(BadBook("names"), lambda value: book.renamed({"a": value}), no_names())
        self.refuses_each(BadBook("names"), lambda value: book.renamed({"z": "y", "a": value}), no_names())
        for key in (0, None, True, "", "A", "a" * 13, ("a",), b"a"):
            self.refuses(BadBook("names"), book.renamed, {key: "d", "z": "a"})
        self.refuses(NoHappening("d"), book.renamed, {"z": "y", "e": "b", "d": "b"})
        self.refuses(NoHappening("z"), book.renamed, {"a": "b", "z": "q"})
        self.refuses(Twice("b"), book.renamed, {"a": "b"})
        self.refuses(Twice("b"), book.renamed, {"c": "b"})
        self.refuses(Twice("x"), book.renamed, {"c": "x", "a": "x", "b": "c"})
        self.refuses(Twice("c"), book.renamed, {"a": "c", "b": "d"})
        self.refuses(Twice("d"), book.renamed, {"a": "c", "b": "d", "c": "d"})
        self.refuses(Twice("a"), book.renamed, {"c": "a"})

    def test_equality(self):
        book = Book(1, SPOTS)
        self.assertTrue(book == Book(1, {"c": [2, (1,)], "a": (Ratio(0), [Ratio(0)]), "b": (Ratio(3, 3), (3,))}))
        self.assertFalse(book != Book(1, dict(reversed(list(SPOTS.items())))))
        others = [Book(1, {**SPOTS, "a": (0, [1])}), Book(1, {**SPOTS, "a": (HALF, [0])}), Book(1, {**SPOTS, "d": (7, [0])}),
                  book.kept(["a", "b"]), book.renamed({"a": "d"}), book.renamed({"a": "b", "b": "a"}), str(book), ("a", "b", "c"), SPOTS]
        self.differs(book, [*others, *no_values()])
        self.differs(Book(1, {"a": (0, [0])}), [Book(2, {"a": (0, [0, 0])}), Book(3, {"a": (0, [0, 0, 0])})])

    def test_what_is_passed_is_copied(self):
        spots = {"a": [0, [0]], "b": [1, [3]]}
        book = Book(1, spots)
        spots["a"][1][0] = 7
        spots["b"][0] = 7
        spots["c"] = [9, [9]]
        self.assertEqual(str(book), "1 a 0 0 / b 1 3")
        place, names, table = [5], ["a"], {"a": "z"}
        more, less, new = book.with_happening("c", 0, place), book.kept(names), book.renamed(table)
        place[0], table["b"] = 6, "y"
        names.append("b")
        self.assertEqual([str(more), str(less), str(new)], ["1 a 0 0 / b 1 3 / c 0 5", "1 a 0 0", "1 b 1 3 / z 0 0"])
        self.assertEqual([place, names, table], [[6], ["a", "b"], {"a": "z", "b": "y"}])

    def test_texts(self):
        long = "9" * 60
        eight = "1 " + " / ".join(f"n{at} {at} 0" for at in range(8))
        self.reads(Book, ["1 a 0 0", "1 a 0 0 / b 1 3", "2 a 0 0 1 / b 0 1 0", "3 a -1/2 0 1 2/3 / z9 0 0 0 0", eight,
                          f"1 {'a' * 12} {long} -{long} / b 1/{long} 0", "1 a 0 0 / aa 0 1 / b 1 0"])
        self.assertEqual(Book.read("1 a 0 0 / b 1 3 / c 2 1"), Book(1, SPOTS))
        self.assertEqual(str(Book(3, {"b": (HALF, (0, -2, Ratio(2, 4))), "a": (1, [0, 0, 0])})), "3 a 1 0 0 0 / b 1/2 0 -2 1/2")

    def test_wrong_texts(self):
        longer = "1" * 61
        nine = "1 " + " / ".join(f"n{at} {at} 0" for at in range(9))
        self.reads_not(Book, {"": 0, "0 a 0 0": 0, "4 a 0 0 0 0": 0, "01 a 0 0": 0, "1/1 a 0 0": 0, "a 0 0": 0, " 1 a 0 0": 0, "+1 a 0 0": 0,
                              "1": 1, "1 ": 1, "1 a": 2, "1 a 0": 3, "2 a 0 0": 4, "3 a 0 0 0": 5, "1 A 0 0": 1, f"1 {'a' * 13} 0 0": 1,
                              "1 a x 0": 2, "1 a 0 x": 3, "1 a 0 0 0": 4, "1 a 0 0 b": 4, "1 a 0 0 b 1 1": 4, "1 a 0 0 /": 5, "1 a 0 0 / ": 5,
                              "1 a 0 0 ": 4, "1 a 0 0 / b": 6, "1 a 0 0 / b 1": 7, "1 a 0 0 / b 1 /": 7, "1 a 0 0 / b 1 1 1": 8,
                              "1 b 0 0 / a 1 1": 5, "1 a 0 0 / a 1 1": 5, "1 a 0 0 / c 1 1 / b 2 2": 9, "1 a 0 0 / / b 1 1": 5,
                              "1 a 0 0 / b 0 0": 7, "1 a 0 0 / b 1 1 / c 0 0": 11, "1 a 0 0 / b 1 1 / c 1 1 / d": 11,
                              "2 a 0 0 1 / b 0 0 1": 9, "3 a 0 0 0 1 / b 0 0 0 1 x": 11, "2 a 0 0 / b 1 1 1": 4, "1 / a 0 0": 1, "1 a / 0 0": 2,
                              f"1 a {longer} 0": 2, f"1 a 0 1/{longer}": 3, f"1 a 0 0 / b {longer} 1": 6, "1 a 0/1 0": 2, "1 a 0 -0": 3,
                              "1  a 0 0": 1, "1 a 0 0  / b 1 1": 4, "1 a 0 0 /  b 1 1": 5, "1 a 0 0 /b 1 1": 4, "1 a 0 0 | b 1 1": 4,
                              nine: 8 * 4, nine + " x": 8 * 4, "1\ta 0 0": 0})
        self.reads_no_values(Book)

    def test_each_cut_text_misses_a_word_or_is_a_book(self):
        words = "2 a 0 0 1 / b 1/2 3 4 / c 1 1 1".split(" ")
        for many in range(1, len(words)):
            text = " ".join(words[:many])
            if many in (5, 10):
                self.assertEqual(str(Book.read(text)), text)
            else:
                self.reads_not(Book, {text: many})

    def test_steps_are_few_numbers_of_any_size(self):
        book = Book(1, {"a": (10 ** 500, [Ratio(1, 10 ** 500)]), "b": (0, [0])})
        self.assertEqual(book.spot_of("a").kind, "forward")
        self.assertEqual(book.step_of(Span.between("b", "a")), Step(10 ** 500, [Ratio(1, 10 ** 500)]))

    def test_which_pair_of_one_spot_is_first(self):
        names = "abcde"
        for pairs in combinations(list(combinations(names, 2)), 2):
            spots = {name: (0, [at]) for at, name in enumerate(names)}
            (one, other), (third, fourth) = pairs
            spots[other] = spots[one]
            spots[fourth] = spots[third]
            found = [pair for pair in combinations(names, 2) if spots[pair[0]] == spots[pair[1]]]
            with self.subTest(pairs=short(pairs)):
                self.refuses(SameSpot(*found[0]), Book, 1, spots)
