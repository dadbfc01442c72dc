"""Point 8 and whosefirst/paces.py."""

from helpers import Case, no_integers, no_lists, no_ratios, no_values
from whosefirst.errors import BadNumber, BadPace, Unlike
from whosefirst.paces import Pace
from whosefirst.ratios import Ratio

HALF = Ratio(1, 2)
NEAR = Ratio(10 ** 60 - 1, 10 ** 60)


class Paces(Case):

    def test_attributes(self):
        pace = Pace([HALF, 0, Ratio(-1, 3)])
        self.assertEqual(pace.parts, (HALF, 0, Ratio(-1, 3)))
        self.are_all_ratios(pace.parts)
        self.assertIs(type(pace.axes), int)
        self.assertEqual([Pace([0] * axes).axes for axes in (1, 2, 3)], [1, 2, 3])
        self.is_ratio(pace.square, 13, 36)
        self.is_ratio(Pace(parts=(0,)).square, 0)
        self.is_ratio(Pace([Ratio(3, 5)]).square, 9, 25)

    def test_as_near_to_light_as_numbers_let(self):
        self.assertEqual(Pace([NEAR]).parts, (NEAR,))
        self.assertEqual(Pace([-NEAR]).square, NEAR * NEAR)
        edge = Ratio(10 ** 400 - 1, 10 ** 400)
        self.assertEqual(Pace([edge * Ratio(3, 5), edge * Ratio(-4, 5)]).axes, 2)
        self.assertEqual(Pace([edge * Ratio(1, 3), edge * Ratio(2, 3), edge * Ratio(-2, 3)]).axes, 3)

    def test_light_and_faster(self):
        for parts in ([1], [-1], [2], [-5], [Ratio(3, 5), Ratio(4, 5)], [Ratio(3, 5), Ratio(-9, 10)], [0, 1], [1, 0, 0], [Ratio(1, 3), Ratio(2, 3), Ratio(-2, 3)],
                      [Ratio(10 ** 60 + 1, 10 ** 60)], [0, 0, -1], [Ratio(7, 10)] * 3, [Ratio(9, 10)] * 2):
            self.refuses(BadPace("parts"), Pace, parts)

    def test_wrong_parts(self):
        self.refuses_each(BadPace("parts"), Pace, [*no_lists(), [], (), [0] * 4, (0, 0, 0, 0), [[0]]])
        for at in range(3):
            self.refuses_each(BadPace("parts"), lambda value: Pace([0] * at + [value] + [0] * (2 - at)), no_ratios())

    def test_rest(self):
        for axes in (1, 2, 3):
            self.assertEqual(Pace.rest(axes), Pace([0] * axes))
            self.assertEqual(Pace.rest(axes=axes).square, 0)
        self.refuses_each(BadNumber("axes"), Pace.rest, [*no_integers(), 0, 4, -1])

    def test_of_beats(self):
        self.assertEqual(Pace.of_beats(2, 1, 0).parts, (Ratio(3, 5),))
        self.assertEqual(Pace.of_beats(HALF, 2, 1).parts, (0, Ratio(-3, 5)))
        self.assertEqual(Pace.of_beats(axis=2, axes=3, ratio=Ratio(3)).parts, (0, 0, Ratio(4, 5)))
        for axes in (1, 2, 3):
            for axis in range(axes):
                self.assertEqual(Pace.of_beats(1, axes, axis), Pace.rest(axes))
                self.assertEqual(Pace.of_beats(Ratio(2, 7), axes, axis), -Pace.of_beats(Ratio(7, 2), axes, axis))
        for ratio in (Ratio(10 ** 50), Ratio(1, 10 ** 50), Ratio(5, 3)):
            part = Pace.of_beats(ratio, 1, 0).parts[0]
            self.assertEqual((part + 1).over(Ratio(1) - part), ratio * ratio)

    def test_of_beats_wrong(self):
        self.refuses_each(BadNumber("ratio"), lambda value: Pace.of_beats(value, None, None), [*no_ratios(), 0, Ratio(0), -1, Ratio(-1, 9)])
        self.refuses_each(BadNumber("axes"), lambda value: Pace.of_beats(1, value, None), [*no_integers(), 0, 4, -1])
        for axes in (1, 2, 3):
            self.refuses_each(BadNumber("axis"), lambda value: Pace.of_beats(1, axes, value), [*no_integers(), -1, axes, 7])

    def test_mixed(self):
        one, other = Pace([HALF, 0]), Pace([0, Ratio(-1, 3)])
        self.assertEqual(one.mixed(other, 0), one)
        self.assertEqual(one.mixed(other, 1), other)
        self.assertEqual(one.mixed(share=Ratio(1, 4), other=other), Pace([Ratio(3, 8), Ratio(-1, 12)]))
        self.assertEqual(Pace([NEAR]).mixed(Pace([-NEAR]), HALF), Pace.rest(1))
        self.assertEqual((one.parts, other.parts), ((HALF, 0), (0, Ratio(-1, 3))))

    def test_mixed_wrong(self):
        pace = Pace([HALF])
        self.refuses_each(BadPace("other"), lambda value: pace.mixed(value, None), no_values())
        shares = [*no_ratios(), -1, 2, Ratio(-1, 10 ** 30), Ratio(10 ** 30 + 1, 10 ** 30)]
        self.refuses_each(BadNumber("share"), lambda value: pace.mixed(Pace.rest(2), value), shares)
        for axes in (2, 3):
            self.refuses(Unlike("axes"), pace.mixed, Pace.rest(axes), 0)

    def test_opposites(self):
        self.assertEqual(-Pace([HALF, 0, Ratio(-1, 3)]), Pace([Ratio(-1, 2), 0, Ratio(1, 3)]))
        self.assertEqual(-Pace.rest(2), Pace.rest(2))

    def test_equality(self):
        self.assertTrue(Pace([HALF, 0]) == Pace((Ratio(2, 4), Ratio(0))))
        self.assertFalse(Pace([HALF]) != Pace([HALF]))
        self.differs(Pace([HALF]), [Pace([0]), Pace([-HALF]), Pace([HALF, 0]), (HALF,), HALF, "1/2", *no_values()])
        self.differs(Pace([0]), [Pace([0, 0]), *no_values()])
        self.differs(Pace([0, HALF]), [Pace([HALF, 0])])

    def test_what_is_passed_is_copied(self):
        parts = [0, HALF]
        pace = Pace(parts)
        parts[0] = 5
        parts.append(0)
        self.assertEqual(pace, Pace([0, HALF]))
        self.assertEqual(parts, [5, HALF, 0])

    def test_texts(self):
        nines, tens = "9" * 60, "1" + "0" * 59
        self.reads(Pace, ["0", "1/2", "-1/2 0", "0 0 0", "1/3 -2/3 1/3", f"{tens}/{nines}", f"-1/{nines} 0", f"{'9' * 59}/{tens}"])
        self.assertEqual(Pace.read("1/2 -1/3"), Pace([HALF, Ratio(-1, 3)]))
        self.assertEqual(str(Pace((0, Ratio(-2, 4), 0))), "0 -1/2 0")

    def test_wrong_texts(self):
        self.reads_not(Pace, {"": 0, " ": 0, "x": 0, "1": 0, "-1": 0, "2": 0, "3/2 x": 0, "0 1": 1, "3/5 4/5": 1, "3/5 4/5 x": 1, "0 0 1": 2,
                              "1/3 2/3 2/3": 2, "1/3 2/3 3/4 0": 2, "0 ": 1, " 0": 0, "0  0": 1, "0 x": 1, "0 0 ": 2, "0 0 0 0": 3, "0 0 0 ": 3,
                              "0 0 0 x": 3, "2/4": 0, "0/1": 0, "-0": 0, "0 +1/2": 1, f"1/{'1' * 61}": 0, f"0 1/{'1' * 61}": 1, "0\n": 0,
                              "9/10 1 0": 1, "1/2 1/2,0": 1, f"0 0 0{' 0' * 9000}": 3})
        self.reads_no_values(Pace)
