"""Point 6 and whosefirst/telling.py."""

import random

from helpers import Case, no_names, no_values
from whosefirst.books import Book
from whosefirst.errors import BadBook, NoHappening, SameSpot
from whosefirst.ratios import Ratio
from whosefirst.telling import apart_pairs, does_reach, kind_between, reached_pairs


def some_books():
    """Books on a road, in a plane, in a room, of one to eight happenings, many of them on the lights of others."""
    source = random.Random(6)
    books = [Book(axes, {"only": (5, [1] * axes)}) for axes in (1, 2, 3)]
    while len(books) < 40:
        axes, many = source.choice([1, 2, 3]), source.choice([2, 3, 5, 8])
        try:
            books.append(Book(axes, {f"{source.choice('abc')}{at}": (source.randint(-4, 4), [source.randint(-3, 3) for _ in range(axes)])
                                     for at in range(many)}))
        except SameSpot:
            pass
    return books


def reaches(book, one, other):
    """A sum of the test's own: whether light or what is slower than light comes from one to other."""
    begin, end = book.spot_of(one), book.spot_of(other)
    beats = end.time - begin.time
    square = Ratio(0)
    for here, there in zip(begin.place, end.place):
        square = square + (there - here) * (there - here)
    return beats.sign > 0 and not (beats * beats).is_below(square)


class Telling(Case):

    def test_by_own_sums(self):
        for book in some_books():
            for one in book:
                for other in book:
                    there, back = reaches(book, one, other), reaches(book, other, one)
                    kind = "forward" if there else "backward" if back else "nothing" if one == other else "apart"
                    self.assertEqual(kind_between(book, one, other), kind)
                    self.assertIs(does_reach(book, one, other), there)
            self.assertEqual(reached_pairs(book), tuple((one, other) for one in book for other in book if reaches(book, one, other)))
            self.assertEqual(apart_pairs(book), tuple((one, other) for one in book for other in book if one < other
                                                      and not reaches(book, one, other) and not reaches(book, other, one)))

    def test_on_the_light_of_another_one(self):
        book = Book(1, {"a": (0, [0]), "b": (3, [3]), "c": (3, [-3]), "d": (6, [0]), "e": (6, [Ratio(1, 10 ** 30)])})
        self.assertEqual(kind_between(book, "a", "b"), "forward")
        self.assertEqual(kind_between(book, "d", "c"), "backward")
        self.assertEqual(kind_between(book, "c", "e"), "apart")
        self.assertEqual(reached_pairs(book), (("a", "b"), ("a", "c"), ("a", "d"), ("a", "e"), ("b", "d"), ("b", "e"), ("c", "d")))
        self.assertEqual(apart_pairs(book), (("b", "c"), ("c", "e"), ("d", "e")))
        room = Book(3, {"a": (0, [0, 0, 0]), "b": (3, [1, 2, 2]), "c": (3, [1, 2, Ratio(21, 10)])})
        self.assertEqual((reached_pairs(room), apart_pairs(room)), ((("a", "b"),), (("a", "c"), ("b", "c"))))

    def test_one_place_or_one_time(self):
        place = Book(1, {"a": (2, [4]), "b": (1, [4]), "c": (0, [4])})
        self.assertEqual((reached_pairs(place), apart_pairs(place)), ((("b", "a"), ("c", "a"), ("c", "b")), ()))
        time = Book(2, {"a": (2, [4, 0]), "b": (2, [4, 1]), "c": (2, [0, 1])})
        self.assertEqual((reached_pairs(time), apart_pairs(time)), ((), (("a", "b"), ("a", "c"), ("b", "c"))))

    def test_reaching_goes_on(self):
        for book in some_books():
            pairs = reached_pairs(book)
            for one, middle in pairs:
                for other in book:
                    if (middle, other) in pairs:
                        self.assertIn((one, other), pairs)
                self.assertNotIn((middle, one), pairs)

    def test_wrong_values(self):
        book = Book(1, {"a": (0, [0]), "b": (1, [0])})
        for call in (kind_between, does_reach):
            self.refuses_each(BadBook("book"), lambda value: call(value, "x", "y"), no_values())
            for value in [*no_names(), "c"]:
                self.refuses(NoHappening(value), call, book, value, None)
                self.refuses(NoHappening(value), call, book, "a", value)
        for call in (reached_pairs, apart_pairs):
            self.refuses_each(BadBook("book"), call, no_values())

    def test_by_name(self):
        book = Book(1, {"a": (0, [0]), "b": (1, [0])})
        self.assertEqual(kind_between(other="a", one="b", book=book), "backward")
        self.assertIs(does_reach(other="b", one="a", book=book), True)
        self.assertEqual((reached_pairs(book=book), apart_pairs(book=book)), ((("a", "b"),), ()))
