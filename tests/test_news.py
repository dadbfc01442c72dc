"""Point 7 and whosefirst/news.py."""

import random
from itertools import combinations

from helpers import Case, no_lists, no_names, no_ratios, no_values
from test_telling import reaches, some_books
from whosefirst.books import Book
from whosefirst.errors import BadBook, BadNumber, BadOrder, NoHappening, Twice, Unlike
from whosefirst.news import (first_news, last_call, left_order, left_to_right, light_left, light_right, meet_of, right_order,
                             spot_of_lights)
from whosefirst.ratios import Ratio
from whosefirst.steps import Step
from whosefirst.telling import does_reach

ROAD = Book(1, {"b": (1, [3]), "a": (0, [0]), "c": (2, [1])})
PLANE = Book(2, {"a": (0, [0, 0]), "b": (0, [1, 0])})
LISTING = (meet_of, first_news, last_call)


def roads():
    return [book for book in some_books() if book.axes == 1]


class News(Case):

    def test_lights(self):
        self.is_ratio(light_right(ROAD, "b"), -2)
        self.is_ratio(light_left(name="b", book=ROAD), 4)
        for book in roads():
            for name in book:
                spot = book.spot_of(name)
                self.assertEqual(light_right(book, name), spot.time - spot.place[0])
                self.assertEqual(light_left(book=book, name=name), spot.time + spot.place[0])

    def test_orders_by_lights(self):
        for book in roads():
            for order, light in ((right_order(book=book), light_right), (left_order(book=book), light_left)):
                self.assertEqual(sorted(name for lot in order for name in lot), list(book))
                for at, lot in enumerate(order):
                    self.assertIs(type(lot), tuple)
                    self.assertEqual(list(lot), sorted(lot))
                    for name in lot:
                        self.assertEqual(light(book, name), light(book, lot[0]))
                        for later in order[at + 1:]:
                            self.assertTrue(light(book, name).is_below(light(book, later[0])))
                self.assertIs(type(order), tuple)

    def test_lots_of_one_light(self):
        book = Book(1, {"d": (1, [1]), "a": (0, [0]), "b": (2, [0]), "c": (-1, [-1])})
        self.assertEqual(right_order(book), (("a", "c", "d"), ("b",)))
        self.assertEqual(left_order(book), (("c",), ("a",), ("b", "d")))
        self.assertEqual(right_order(ROAD), (("b",), ("a",), ("c",)))
        self.assertEqual(left_order(ROAD), (("a",), ("c",), ("b",)))

    def test_meet_first_news_last_call(self):
        for book in roads():
            for many in range(1, len(book) + 1):
                for names in combinations(book, many):
                    rights, lefts = [light_right(book, name) for name in names], [light_left(book, name) for name in names]
                    meet = meet_of(book, names)
                    self.are_all_ratios(meet)
                    for got, lights in zip(meet, (rights, lefts)):
                        self.assertIn(got, lights)
                        self.assertFalse(any(got.is_below(light) for light in lights))
                    self.assertEqual(first_news(book, list(names)), spot_of_lights(meet[0], meet[1]))
                    last = last_call(book, names)
                    for got, lights in zip((last.time - last.place[0], last.time + last.place[0]), (rights, lefts)):
                        self.assertIn(got, lights)
                        self.assertFalse(any(light.is_below(got) for light in lights))

    def test_news_is_there_first_at_the_first_news(self):
        source = random.Random(3)
        for book in roads():
            names = [name for name in book if source.random() < 0.6] or list(book)
            news, call = first_news(book, names), last_call(book, names)
            for name in names:
                self.assertIn((news - book.spot_of(name)).kind, ("forward", "nothing"))
                self.assertIn((book.spot_of(name) - call).kind, ("forward", "nothing"))
            for _ in range(40):
                spot = Step(source.randint(-9, 9), [source.randint(-9, 9)])
                is_there = all((spot - book.spot_of(name)).kind in ("forward", "nothing") for name in names)
                self.assertEqual(is_there, (spot - news).kind in ("forward", "nothing"))
                comes = all((book.spot_of(name) - spot).kind in ("forward", "nothing") for name in names)
                self.assertEqual(comes, (call - spot).kind in ("forward", "nothing"))

    def test_of_one_happening(self):
        self.assertEqual(meet_of(names=["b"], book=ROAD), (-2, 4))
        self.assertEqual(first_news(names=("b",), book=ROAD), ROAD.spot_of("b"))
        self.assertEqual(last_call(names=["b"], book=ROAD), ROAD.spot_of("b"))

    def test_left_to_right(self):
        crowds = 0
        for book in roads():
            for many in range(len(book) + 1):
                for names in combinations(book, many):
                    if any(reaches(book, one, other) for one in names for other in names):
                        self.refuses(Unlike("crowd"), left_to_right, book, names)
                    else:
                        due = tuple(sorted(names, key=lambda name: book.spot_of(name).place[0].top))
                        self.assertEqual(left_to_right(book, names), due)
                        self.assertEqual(left_to_right(names=list(reversed(names)), book=book), due)
                        self.assertIs(type(left_to_right(book, list(names))), tuple)
                        crowds += many > 2
        self.assertGreater(crowds, 2)
        self.assertEqual(left_to_right(ROAD, []), ())
        self.assertEqual(left_to_right(ROAD, ("b", "a")), ("a", "b"))

    def test_along_a_crowd_u_falls_and_w_rises(self):
        book = Book(1, {f"n{at}": (Ratio(at * at % 5, 3), [2 * (at * 3 % 8)]) for at in range(8)})
        names = left_to_right(book, list(book))
        for one, other in zip(names, names[1:]):
            self.assertTrue(light_right(book, other).is_below(light_right(book, one)))
            self.assertTrue(light_left(book, one).is_below(light_left(book, other)))

    def test_spot_of_lights(self):
        self.assertEqual(spot_of_lights(Ratio(1, 2), 2), Step(Ratio(5, 4), [Ratio(3, 4)]))
        self.assertEqual(spot_of_lights(left=0, right=3), Step(Ratio(3, 2), [Ratio(-3, 2)]))
        for book in roads():
            for name in book:
                self.assertEqual(spot_of_lights(light_right(book, name), light_left(book, name)), book.spot_of(name))
        self.refuses_each(BadNumber("right"), lambda value: spot_of_lights(value, None), no_ratios())
        self.refuses_each(BadNumber("left"), lambda value: spot_of_lights(1, value), no_ratios())

    def test_lights_tell_what_reaches(self):
        for book in roads():
            for one in book:
                for other in book:
                    falls = light_right(book, other).is_below(light_right(book, one)) or light_left(book, other).is_below(light_left(book, one))
                    self.assertEqual(does_reach(book, one, other), not falls and one != other)

    def test_wrong_books(self):
        for call in (light_right, light_left, *LISTING, left_to_right):
            self.refuses_each(BadBook("book"), lambda value: call(value, None), no_values())
        for call in (right_order, left_order):
            self.refuses_each(BadBook("book"), call, no_values())
            self.refuses(Unlike("road"), call, PLANE)
            self.refuses(Unlike("road"), call, Book(3, {"a": (0, [0, 0, 0])}))

    def test_wrong_names(self):
        for call in (light_right, light_left):
            for book in (ROAD, PLANE):
                for value in [*no_names(), "z"]:
                    self.refuses(NoHappening(value), call, book, value)
            self.refuses(Unlike("road"), call, PLANE, "a")

    def test_wrong_lists_of_names(self):
        for call in (*LISTING, left_to_right):
            for book in (ROAD, PLANE):
                self.refuses_each(BadOrder("names"), lambda value: call(book, value), no_lists())
                for value in [*no_names(), "z"]:
                    self.refuses(NoHappening(value), call, book, [value])
                    self.refuses(NoHappening(value), call, book, ["a", "a", value, "y"])
                self.refuses(Twice("b"), call, book, ["a", "b", "b", "a"])
            self.refuses(Unlike("road"), call, PLANE, ["a"])
        for call in LISTING:
            for book in (ROAD, PLANE):
                self.refuses(BadOrder("names"), call, book, [])
                self.refuses(BadOrder("names"), call, book, ())
        self.refuses(Unlike("road"), left_to_right, PLANE, [])
        self.refuses(Unlike("crowd"), left_to_right, ROAD, ["b", "a", "c"])
