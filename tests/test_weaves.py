"""Point 21, whosefirst/weaves.py and whosefirst/eyes.py."""

import random

from helpers import Case, no_lists, no_names, no_ratios, no_values
from own import exact
from own_eyes import EIGHT, PLANE, THREE, fits, lights, order_by_moves, some_roads, unlike, weaves_of
from whosefirst.books import Book
from whosefirst.errors import BadBook, BadEye, BadNumber, BadWeave, NoHappening, Unlike
from whosefirst.eyes import Eye, eye_of, eye_place, seen_by, sight_of, weave_of
from whosefirst.paces import Pace
from whosefirst.ratios import Ratio
from whosefirst.riders import Rider, rider_sight, seen_order_of
from whosefirst.steps import Step
from whosefirst.weaves import Weave, fits_weave, lights_passed, woven_order

HALF = Ratio(1, 2)
SITTING, GOING = Eye([(0, 0)]), Eye([(0, 0), (4, 2)])
NEARLY = Ratio(10 ** 30 - 1, 10 ** 30)


class Weaves(Case):

    def test_attributes(self):
        self.assertEqual(Weave(moves="wbbu").moves, "wbbu")
        self.assertEqual([len(Weave("uwb"[at % 3] * 16).moves) for at in range(3)], [16] * 3)
        self.assertTrue(Weave("ub") == Weave("ub"))
        self.differs(Weave("ub"), [Weave("bu"), Weave("u"), "ub", "u b", *no_values()])

    def test_wrong_moves(self):
        self.refuses_each(BadWeave("moves"), Weave, [*no_names(), "u" * 17, "ux", "u w", "U", "ub ", "b/", ["u"], ("u", "w"), b"u", "\n", "u\n"])
        self.assertEqual(Weave("u" * 16).moves, "u" * 16)

    def test_texts(self):
        self.reads(Weave, ["u", "w b b u", "b", " ".join("uwb" * 5 + "u")])
        self.reads_not(Weave, {"": 0, "u ": 1, " u": 0, "uw": 0, "u  w": 1, "u x": 1, "u w / b": 2, " ".join("u" * 17): 16, " ".join("uwb" * 6): 16, "1": 0, "U": 0, "u w B": 2})
        self.reads_no_values(Weave)

    def test_lights(self):
        for book in some_roads():
            rights, lefts = lights_passed(book)
            self.are_all_ratios(rights)
            self.are_all_ratios(lefts)
            self.assertEqual([[exact(light) for light in rights], [exact(light) for light in lefts]], unlike(book))
        self.assertEqual(lights_passed(book=THREE), ((0, 8, 10), (0, 8, 10)))
        self.assertIs(type(lights_passed(THREE)), tuple)

    def test_fits(self):
        for moves in ("wbbu", "uuuwww", "bbb", "uwuwuw", "ubwb"):
            self.assertIs(fits_weave(weave=Weave(moves), book=THREE), True)
        for moves in ("bb", "bbbb", "u", "uuuww", "wbbb", "uuuwwww"):
            self.assertIs(fits_weave(THREE, Weave(moves)), False)
        source = random.Random(151)
        for book in some_roads():
            for _ in range(20):
                weave = Weave("".join(source.choice("uwb") for _ in range(source.randint(1, 10))))
                self.assertIs(fits_weave(book, weave), fits(book, weave))

    def test_woven_orders(self):
        for book in some_roads():
            for moves in weaves_of(book)[::7]:
                self.assertEqual(woven_order(book, Weave(moves)), order_by_moves(book, moves))
        self.assertEqual(woven_order(weave=Weave("wbbu"), book=THREE), (("a", "c"), ("b",)))
        eight = EIGHT
        self.assertEqual([len(some) for some in unlike(eight)], [8, 8])
        for moves in ("u" * 8 + "w" * 8, "b" * 8, "uw" * 8, "wwwwuuuubbbb"):
            self.assertEqual(woven_order(eight, Weave(moves)), order_by_moves(eight, moves))

    def test_wrong_values(self):
        for call in (fits_weave, woven_order, eye_of):
            self.refuses_each(BadBook("book"), lambda value: call(value, None), no_values())
            self.refuses_each(BadWeave("weave"), lambda value: call(PLANE, value), [*no_values(), "bbb"])
            self.refuses(Unlike("road"), call, PLANE, Weave("bbb"))
        for call in (woven_order, eye_of):
            for moves in ("bb", "bbbb", "uuuww"):
                self.refuses(Unlike("weave"), call, THREE, Weave(moves))
        self.refuses_each(BadBook("book"), lights_passed, no_values())
        self.refuses(Unlike("road"), lights_passed, PLANE)


def random_eye(source, most=7):
    """An eye of some corners, often nearly as fast as light, beginning anywhere."""
    time, place = Ratio(source.randint(-30, 20), 2), Ratio(source.randint(-20, 20), 2)
    corners = [(time, place)]
    for _ in range(source.randint(0, most)):
        grown = Ratio(source.randint(1, 24), source.randint(1, 3))
        time, place = time + grown, place + grown * Ratio(source.choice([-999, -7, -3, 0, 2, 5, 999]), 1000)
        corners.append((time, place))
    return Eye(corners)


def own_place(eye, time):
    """Where an eye is at a time, in Fractions."""
    corners = [(exact(when), exact(where)) for when, where in eye.corners]
    if time <= corners[0][0]:
        return corners[0][1]
    for (one, here), (other, there) in zip(corners, corners[1:]):
        if one <= time <= other:
            return here + (there - here) * (time - one) / (other - one)
    return corners[-1][1]


class Eyes(Case):

    def test_attributes(self):
        eye = Eye(corners=[[0, 1], (Ratio(3, 2), 2)])
        self.assertEqual(eye.corners, ((0, 1), (Ratio(3, 2), 2)))
        self.assertEqual([type(eye.corners), type(eye.corners[0])], [tuple, tuple])
        for corner in eye.corners:
            self.are_all_ratios(corner)
        corners = [[0, 1], [2, 2]]
        copied = Eye(corners)
        corners[0][0] = -1
        corners.append((9, 9))
        self.assertEqual(copied, Eye([(0, 1), (2, 2)]))
        self.assertTrue(Eye([(Ratio(0), 1)]) == Eye(((0, Ratio(1)),)))
        self.differs(SITTING, [GOING, Eye([(0, 1)]), Eye([(1, 0)]), ((0, 0),), *no_values()])

    def test_wrong_corners(self):
        self.refuses_each(BadEye("corners"), Eye, [*no_lists(), [], ()])
        for value in [*no_values(), [1], [1, 2, 3], "ab", ("1", "2"), {1: 2, 3: 4}]:
            self.refuses(BadEye("corners"), Eye, [(0, 0), value])
        for value in no_ratios():
            self.refuses(BadEye("corners"), Eye, [(0, 0), (value, 0)])
            self.refuses(BadEye("corners"), Eye, [(0, 0), (5, value)])
        # As fast as light, faster, at one time, back in time.
        for corner in ((4, 4), (4, -4), (4, 5), (4, -9), (0, 0), (0, 1), (-1, 0), (-4, 2)):
            self.refuses(BadEye("corners"), Eye, [(0, 0), corner])
            self.refuses(BadEye("corners"), Eye, [(-9, 0), (0, 0), corner, (30, 0)])
        self.assertEqual(len(Eye([(0, 0), (1, NEARLY), (2, 0)]).corners), 3)

    def test_1_40_and_41_corners(self):
        many = [(at, Ratio(at % 2, 2)) for at in range(41)]
        self.assertEqual([len(Eye(many[:1]).corners), len(Eye(many[:40]).corners)], [1, 40])
        self.refuses(BadEye("corners"), Eye, many)

    def test_places(self):
        source = random.Random(153)
        for _ in range(40):
            eye = random_eye(source)
            times = [time for time, _ in eye.corners] + [Ratio(source.randint(-200, 300), 7) for _ in range(10)]
            for time in times:
                place = eye_place(eye, time)
                self.assertIs(type(place), Ratio)
                self.assertEqual(exact(place), own_place(eye, exact(time)))
        self.assertEqual([eye_place(GOING, time) for time in (-5, 0, 2, 3, 4, 100)], [0, 0, 1, Ratio(3, 2), 2, 2])
        self.assertEqual(eye_place(time=3, eye=GOING), Ratio(3, 2))
        self.refuses_each(BadEye("eye"), lambda value: eye_place(value, None), [*no_values(), [(0, 0)]])
        self.refuses_each(BadNumber("time"), lambda value: eye_place(GOING, value), no_ratios())

    def test_sights(self):
        """Each happening is seen as much later as it is away; earlier its news is not where the eye is."""
        source = random.Random(154)
        for book in some_roads():
            for _ in range(6):
                eye = random_eye(source)
                for name in book:
                    sight, spot = sight_of(book, eye, name), book.spot_of(name)
                    self.assertIs(type(sight), Step)
                    self.assertEqual(sight.place[0], eye_place(eye, sight.time))
                    self.assertEqual(sight.time - spot.time, abs(sight.place[0] - spot.place[0]))
        self.assertEqual(str(sight_of(name="a", eye=GOING, book=THREE)), "8 2")

    def test_seen_orders_by_times_and_by_lights(self):
        source = random.Random(155)
        moves = set()
        for book in some_roads():
            for _ in range(8):
                eye = random_eye(source)
                order = seen_by(book, eye)
                times = {name: exact(sight_of(book, eye, name).time) for name in book}
                self.assertEqual(order, tuple(tuple(name for name in book if times[name] == time) for time in sorted(set(times.values()))))
                weave = weave_of(book, eye)
                self.assertTrue(fits(book, weave))
                self.assertEqual(woven_order(book, weave), order)
                self.is_passed_so(book, eye, weave)
                moves |= set(weave.moves)
        self.assertEqual(moves, {"u", "w", "b"})

    def is_passed_so(self, book, eye, weave):
        """Between two moves there is a time at which just the lights of the first ones are passed."""
        rights, lefts = unlike(book)
        times = sorted({self.time_past(eye, light, side) for side, some in ((-1, rights), (1, lefts)) for light in some})
        self.assertEqual(len(times), len(weave.moves))
        state = (0, 0)
        for time, move in zip(times, weave.moves):
            state = (state[0] + (move != "w"), state[1] + (move != "u"))
            place = own_place(eye, time)
            self.assertEqual((sum(light <= time - place for light in rights), sum(light <= time + place for light in lefts)), state)

    def time_past(self, eye, light, side):
        """When time and side times place come to a light: in the part where it lies between both ends."""
        corners = [(exact(time), exact(place)) for time, place in eye.corners]
        corners = [(corners[0][0] - 10 ** 6, corners[0][1]), *corners, (corners[-1][0] + 10 ** 6, corners[-1][1])]
        for (one, here), (other, there) in zip(corners, corners[1:]):
            low, high = one + side * here, other + side * there
            if low <= light <= high:
                return one + (other - one) * (light - low) / (high - low)
        raise AssertionError("not passed")

    def test_an_eye_that_goes_evenly_is_a_rider(self):
        source = random.Random(156)
        for book in some_roads():
            for part, stand in ((Ratio(0), Ratio(3)), (HALF, Ratio(-1)), (Ratio(-9, 10), HALF), (Ratio(99, 100), Ratio(0))):
                far = 10 ** 5
                eye = Eye([(-far, stand - part * far), (far, stand + part * far)])
                rider = Rider(Pace([part]), stand)
                self.assertEqual(seen_by(book, eye), seen_order_of(book, rider))
                name = source.choice(book.names)
                self.assertEqual(sight_of(book, eye, name), rider_sight(book, rider, name))

    def test_by_hand(self):
        self.assertEqual([seen_by(THREE, SITTING), weave_of(THREE, SITTING).moves, seen_by(eye=GOING, book=THREE)], [(("c",), ("a", "b")), "bbb", (("a",), ("c",), ("b",))])
        self.assertEqual(weave_of(eye=GOING, book=THREE), Weave("bwwuu"))
        # Ahead of the first corner, and behind the last one, it rests.
        late = Eye([(100, 3), (104, 5)])
        self.assertEqual([str(sight_of(THREE, late, name)) for name in "abc"], ["7 3", "13 3", "11 3"])
        early = Eye([(-9, 3), (-5, 5)])
        self.assertEqual([str(sight_of(THREE, early, name)) for name in "abc"], ["5 5", "15 5", "13 5"])

    def test_eyes_of_weaves(self):
        for book in some_roads():
            found = weaves_of(book)
            for moves in found if len(found) < 70 else found[::len(found) // 50]:
                eye = eye_of(book, Weave(moves))
                self.assertIs(type(eye), Eye)
                self.assertEqual(weave_of(book, eye).moves, moves)
                self.is_passed_so(book, eye, Weave(moves))
                self.assertEqual(eye_of(weave=Weave(moves), book=Book.read(str(book))), eye)
        eight = EIGHT
        for moves in ("u" * 8 + "w" * 8, "w" * 8 + "u" * 8, "b" * 8, "uw" * 8, "wwwwuuuubbbb", "bbbbwwwwuuuu", "wubwubwubuwwu"):
            self.assertEqual(weave_of(eight, eye_of(eight, Weave(moves))).moves, moves)

    def test_wrong_values(self):
        for call in (seen_by, weave_of):
            self.refuses_each(BadBook("book"), lambda value: call(value, None), no_values())
            self.refuses_each(BadEye("eye"), lambda value: call(PLANE, value), [*no_values(), Rider(Pace([0]), 0)])
            self.refuses(Unlike("road"), call, PLANE, SITTING)
        self.refuses_each(BadBook("book"), lambda value: sight_of(value, None, None), no_values())
        self.refuses_each(BadEye("eye"), lambda value: sight_of(PLANE, value, None), no_values())
        for value in [*no_names(), "z", ["a"]]:
            self.refuses(NoHappening(value), sight_of, PLANE, SITTING, value)
        self.refuses(Unlike("road"), sight_of, PLANE, SITTING, "a")

    def test_one_light(self):
        """Happenings on one light are passed at one moment."""
        book = Book(1, {"a": (0, [0]), "b": (1, [1]), "c": (2, [2])})
        self.assertEqual(lights_passed(book), ((0,), (0, 2, 4)))
        self.assertEqual([seen_by(book, Eye([(0, place)])) for place in (-9, 0, 1, 9)],
                         [(("a",), ("b",), ("c",)), (("a",), ("b",), ("c",)), (("a", "b"), ("c",)), (("a", "b", "c"),)])
        self.assertEqual({lights(book, name)[0] for name in book}, {0})
