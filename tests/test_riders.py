"""Point 16, whosefirst/riders.py."""

from helpers import Case, no_names, no_ratios, no_values
from own import exact, sign_of
from own_riders import lights, line, mark, road_books, some_riders
from whosefirst.books import Book
from whosefirst.called import called_order
from whosefirst.errors import BadBook, BadNumber, BadPace, BadRider, NoHappening, Unlike
from whosefirst.paces import Pace
from whosefirst.ratios import Ratio
from whosefirst.riders import Rider, called_order_of, rider_mark, rider_side, rider_sight, seen_order_of
from whosefirst.steps import Step

HALF = Ratio(1, 2)
TWO = Book(1, {"a": (0, [0]), "b": (1, [2])})
SITTING = Rider(Pace([0]), 5)
PLANE = Book(2, {"a": (0, [0, 0])})


class Riders(Case):

    def test_attributes(self):
        rider = Rider(stand=5, pace=Pace([Ratio(3, 5)]))
        self.assertEqual((rider.pace, rider.stand, rider.p, rider.q), (Pace([Ratio(3, 5)]), 5, 4, 25))
        self.are_all_ratios((rider.stand, rider.p, rider.q))
        self.assertEqual((SITTING.p, SITTING.q), (1, 10))
        for book in road_books():
            for rider in some_riders(book):
                self.assertEqual((exact(rider.p), exact(rider.q)), line(rider))

    def test_a_rider_is_on_its_line(self):
        for rider in some_riders(TWO):
            for time in (-3, 0, HALF, 7):
                place = rider.pace.parts[0] * time + rider.stand
                self.assertEqual(place + time, rider.p * (-place + time) + rider.q)

    def test_of_line(self):
        for p in (1, 4, HALF, Ratio(10 ** 30), Ratio(1, 7)):
            for q in (0, 5, Ratio(-7, 3)):
                rider = Rider.of_line(p, q)
                self.assertEqual((rider.p, rider.q), (p, q))
                self.assertEqual(Rider.of_line(q=rider.q, p=rider.p), rider)
        self.assertEqual(str(Rider.of_line(4, 5)), "3/5 1")
        self.refuses_each(BadNumber("p"), lambda value: Rider.of_line(value, None), [*no_ratios(), 0, -1, Ratio(-1, 9)])
        self.refuses_each(BadNumber("q"), lambda value: Rider.of_line(1, value), no_ratios())

    def test_equality(self):
        self.assertTrue(Rider(Pace([0]), 5) == Rider(Pace((Ratio(0),)), Ratio(10, 2)))
        self.differs(SITTING, [Rider(Pace([0]), 4), Rider(Pace([HALF]), 5), Pace([0]), "0 5", *no_values()])

    def test_wrong_riders(self):
        self.refuses_each(BadPace("pace"), lambda value: Rider(value, None), no_values())
        self.refuses_each(BadNumber("stand"), lambda value: Rider(Pace([0, 0]), value), no_ratios())
        for axes in (2, 3):
            self.refuses(Unlike("road"), Rider, Pace.rest(axes), 0)

    def test_texts(self):
        self.reads(Rider, ["0 0", "3/5 1", "-1/2 -7/3", "0 5", f"1/{'9' * 60} -{'9' * 60}"])
        for rider in some_riders(TWO):
            self.assertEqual(Rider.read(str(rider)), rider)
            self.assertEqual(str(rider), f"{rider.pace} {rider.stand}")

    def test_wrong_texts(self):
        self.reads_not(Rider, {"": 0, "0": 1, "1 0": 0, "-1 0": 0, "5/4 0": 0, "0 0 0": 2, "0 0 ": 2, " 0 0": 0, "0  0": 1, "a 0": 0, "0 a": 1, "1/2 2/4": 1,
                               "2/4 1": 0, "-0 1": 0, "1/2 +1": 1, f"0 {'1' * 61}": 1, f"1/{'1' * 61} 0": 0, "1/2 0 / 1": 2, "1/2": 1, "1/2 1/0": 1})
        self.reads_no_values(Rider)


class Seen(Case):

    def test_marks_sides_and_sights(self):
        sides = set()
        for book in road_books():
            for rider in some_riders(book):
                p, q = line(rider)
                for name in book:
                    u, w = lights(book, name)
                    self.assertEqual(exact(rider_mark(book, rider, name)), mark(book, rider, name))
                    side = rider_side(book, rider, name)
                    self.assertIs(type(side), int)
                    self.assertEqual(side, sign_of(p * u - (w - q)))
                    sides.add(side)
                    spot = book.spot_of(name)
                    self.assertEqual(side, -(spot.place[0] - rider.pace.parts[0] * spot.time - rider.stand).sign)
                    self.is_first_sight(book, rider, name)
        self.assertEqual(sides, {1, 0, -1})

    def is_first_sight(self, book, rider, name):
        """The sight is where the rider is then, and the news goes there as fast as light; so earlier it is not there."""
        sight = rider_sight(book, rider, name)
        self.assertIs(type(sight), Step)
        self.assertEqual(sight.place[0], rider.pace.parts[0] * sight.time + rider.stand)
        way = sight - book.spot_of(name)
        self.assertEqual((way.square, way.time.sign >= 0), (0, True))
        earlier = Step(sight.time - Ratio(1, 1000), [rider.pace.parts[0] * (sight.time - Ratio(1, 1000)) + rider.stand]) - book.spot_of(name)
        self.assertIn(earlier.kind, ("apart", "backward"))
        self.assertEqual(rider.p * (sight.time - sight.place[0]), rider_mark(book, rider, name))

    def test_seen_orders_by_the_times_of_sights(self):
        for book in road_books():
            for rider in some_riders(book):
                times = {name: exact(rider_sight(book, rider, name).time) for name in book}
                due = tuple(tuple(name for name in book if times[name] == time) for time in sorted(set(times.values())))
                self.assertEqual(seen_order_of(book, rider), due)
                self.assertEqual(called_order_of(book, rider), called_order(book, rider.pace))

    def test_a_rider_through_a_sees_b_ahead_exactly_if_both_lights_are_less(self):
        for book in road_books():
            for rider in some_riders(book):
                for one in book:
                    for other in book:
                        if rider_side(book, rider, one) == 0 and one != other:
                            less = lights(book, other)[0] < lights(book, one)[0] and lights(book, other)[1] < lights(book, one)[1]
                            self.assertEqual(mark(book, rider, other) < mark(book, rider, one), less)

    def test_by_hand(self):
        self.assertEqual([rider_mark(TWO, SITTING, "a"), rider_mark(TWO, SITTING, "b"), rider_side(TWO, SITTING, "b"), str(rider_sight(TWO, SITTING, "b"))],
                         [0, -1, 1, "4 5"])
        self.assertEqual([called_order_of(TWO, SITTING), seen_order_of(TWO, SITTING)], [(("a",), ("b",)), (("b",), ("a",))])
        self.assertEqual([rider_side(name=name, rider=Rider(Pace([0]), 2), book=TWO) for name in "ab"], [1, 0])
        self.assertEqual([rider_side(TWO, Rider(Pace([HALF]), -1), name) for name in "ab"], [-1, -1])
        self.assertEqual(seen_order_of(rider=Rider(Pace([0]), HALF), book=TWO), (("a",), ("b",)))
        self.assertEqual(called_order_of(rider=Rider(Pace([HALF]), 9), book=TWO), (("a", "b"),))
        self.is_ratio(rider_mark(name="a", rider=SITTING, book=TWO), 0)
        self.assertEqual(str(rider_sight(name="a", rider=SITTING, book=TWO)), "5 5")

    def test_wrong_values(self):
        for call in (rider_mark, rider_side, rider_sight):
            self.refuses_each(BadBook("book"), lambda value: call(value, None, None), no_values())
            self.refuses_each(BadRider("rider"), lambda value: call(PLANE, value, None), [*no_values(), Pace([0])])
            self.refuses(NoHappening("b"), call, PLANE, SITTING, "b")
            for value in [*no_names(), ["a"]]:
                self.refuses(NoHappening(value), call, PLANE, SITTING, value)
            self.refuses(Unlike("road"), call, PLANE, SITTING, "a")
        for call in (seen_order_of, called_order_of):
            self.refuses_each(BadBook("book"), lambda value: call(value, None), no_values())
            self.refuses_each(BadRider("rider"), lambda value: call(PLANE, value), [*no_values(), Pace([0])])
            self.refuses(Unlike("road"), call, PLANE, SITTING)
