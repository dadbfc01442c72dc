"""Point 4 and whosefirst/steps.py."""

import random
from fractions import Fraction

from helpers import Case, no_integers, no_lists, no_ratios, no_values, short
from whosefirst.errors import BadNumber, BadStep, BadText, Unlike
from whosefirst.ratios import Ratio
from whosefirst.steps import Step, product_of

HALF = Ratio(1, 2)


def some_steps(axes):
    source = random.Random(axes)
    steps = [Step.nothing(axes)]
    for _ in range(40):
        steps.append(Step(Ratio(source.randint(-4, 4), source.randint(1, 3)),
                          [Ratio(source.randint(-3, 3), source.randint(1, 3)) for _ in range(axes)]))
    return steps


def fractions(step):
    return [Fraction(number.top, number.bottom) for number in (step.time, *step.place)]


class Steps(Case):

    def test_attributes(self):
        step = Step(2, [HALF, -1, 0])
        self.is_ratio(step.time, 2)
        self.are_all_ratios(step.place)
        self.assertEqual(step.place, (HALF, -1, 0))
        self.assertIs(type(step.axes), int)
        self.assertEqual([Step(0, [0] * axes).axes for axes in (1, 2, 3)], [1, 2, 3])
        self.is_ratio(step.square, 11, 4)
        self.is_ratio(Step(3, (1, 2)).square, 4)
        self.assertEqual(Step(place=(1,), time=HALF), Step(HALF, [1]))

    def test_wrong_times_and_places(self):
        self.refuses_each(BadStep("time"), lambda value: Step(value, [1]), no_ratios())
        self.refuses_each(BadStep("time"), lambda value: Step(value, []), no_ratios())
        self.refuses_each(BadStep("place"), lambda value: Step(1, value), [*no_lists(), [], (), [0] * 4, (1, 2, 3, 4), [[1]], [0] * 9])
        for at in range(3):
            self.refuses_each(BadStep("place"), lambda value: Step(1, [0] * at + [value] + [0] * (2 - at)), no_ratios())

    def test_nothing(self):
        for axes in (1, 2, 3):
            self.assertEqual(Step.nothing(axes), Step(0, [0] * axes))
            self.assertEqual(Step.nothing(axes=axes).kind, "nothing")
            self.is_ratio(Step.nothing(axes).time, 0)
        self.refuses_each(BadNumber("axes"), Step.nothing, [*no_integers(), 0, -1, 4, 10 ** 30])

    def test_squares_and_products(self):
        for axes in (1, 2, 3):
            steps = some_steps(axes)
            for one in steps:
                for other in steps:
                    first, second = fractions(one), fractions(other)
                    due = first[0] * second[0] - sum(x * y for x, y in zip(first[1:], second[1:]))
                    self.is_ratio(product_of(one, other), due.numerator, due.denominator)
                self.assertEqual(product_of(one, one), one.square)

    def test_kinds(self):
        kinds = {"forward": [(1, [0]), (1, [1]), (1, [-1]), (5, [3, 4]), (5, [-3, -4]), (3, [1, 2, 2]), (HALF, [0, 0, HALF])],
                 "backward": [(-1, [0]), (-1, [1]), (-1, [-1]), (-5, [3, 4]), (-3, [1, -2, 2]), (Ratio(-1, 2), [Ratio(1, 3)])],
                 "apart": [(0, [1]), (0, [-1]), (1, [2]), (-1, [2]), (0, [0, 0, Ratio(1, 9)]), (5, [3, Ratio(40001, 10000)]), (3, [2, 2, 2])],
                 "nothing": [(0, [0]), (0, [0, 0]), (0, [0, 0, 0])]}
        for kind, steps in kinds.items():
            for time, place in steps:
                self.assertEqual(Step(time, place).kind, kind)

    def test_facts_of_kinds(self):
        opposite = {"forward": "backward", "backward": "forward", "apart": "apart", "nothing": "nothing"}
        for axes in (1, 2, 3):
            for step in some_steps(axes):
                self.assertEqual(step.kind == "apart", step.square.sign < 0)
                self.assertEqual((-step).kind, opposite[step.kind])
                self.assertEqual((step * Ratio(2, 7)).kind, step.kind)
                self.assertEqual((step * Ratio(-2, 7)).kind, opposite[step.kind])
                self.assertEqual((step * Ratio(-3, 7)).square, step.square * Ratio(9, 49))
                self.assertEqual((step * 0).kind, "nothing")

    def test_forward_steps_add_up(self):
        for axes in (1, 2, 3):
            ahead = [step for step in some_steps(axes) if step.kind == "forward"]
            self.assertTrue(len(ahead) > 3)
            for one in ahead:
                for other in ahead:
                    self.assertGreaterEqual(product_of(one, other).sign, 0)
                    self.assertEqual((one + other).kind, "forward")
                    self.assertFalse((one + other).square.is_below(one.square + other.square))

    def test_sums_differences_multiples(self):
        for axes in (1, 2, 3):
            steps = some_steps(axes)
            for one in steps:
                for other in steps[:9]:
                    for got, sign in ((one + other, 1), (one - other, -1)):
                        self.assertIs(type(got), Step)
                        self.assertEqual(fractions(got), [x + sign * y for x, y in zip(fractions(one), fractions(other))])
                self.assertEqual(fractions(-one), [-x for x in fractions(one)])
                self.assertEqual(fractions(one * Ratio(-2, 3)), [x * Fraction(-2, 3) for x in fractions(one)])
                self.assertEqual(fractions(one * 3), [x * 3 for x in fractions(one)])

    def test_wrong_values_for_operators(self):
        step = Step(1, [2])
        for value in no_values():
            with self.subTest(value=short(value)):
                self.refuses(BadStep("other"), lambda: step + value)
                self.refuses(BadStep("other"), lambda: step - value)
        for value in [*no_ratios(), step]:
            with self.subTest(value=short(value)):
                self.refuses(BadNumber("ratio"), lambda: step * value)
        for axes in (2, 3):
            self.refuses(Unlike("axes"), lambda: step + Step.nothing(axes))
            self.refuses(Unlike("axes"), lambda: Step.nothing(axes) - step)

    def test_wrong_values_for_products(self):
        step = Step(1, [2])
        self.refuses_each(BadStep("one"), lambda value: product_of(value, step), no_values())
        self.refuses_each(BadStep("one"), lambda value: product_of(value, None), no_values())
        self.refuses_each(BadStep("other"), lambda value: product_of(step, value), no_values())
        self.refuses(Unlike("axes"), product_of, step, Step.nothing(2))
        self.refuses(Unlike("axes"), product_of, Step.nothing(3), step)
        self.assertEqual(product_of(other=Step(3, [1]), one=step), 1)

    def test_equality(self):
        self.assertTrue(Step(1, [HALF]) == Step(Ratio(2, 2), (Ratio(2, 4),)))
        self.assertFalse(Step(1, [2]) != Step(1, [2]))
        self.differs(Step(1, [2]), [Step(2, [2]), Step(1, [1]), Step(1, [2, 0]), Step(-1, [-2]), (1, (2,)), "1 2", *no_values()])
        self.differs(Step(1, [2, 3]), [Step(1, [3, 2]), Step(1, [2]), Step(1, [2, 3, 0])])

    def test_what_is_passed_is_copied(self):
        place = [1, 2]
        step = Step(0, place)
        place[0] = 9
        place.append(3)
        self.assertEqual(str(step), "0 1 2")
        self.assertEqual(place, [9, 2, 3])

    def test_texts(self):
        long = "9" * 60
        self.reads(Step, ["0 0", "1 2 3", "-1/2 3/4 0 -7", "0 0 0 0", f"{long} -{long}", f"1/{long} 1", f"-{long}/8 0 -8/{long}"])
        self.assertEqual(Step.read("1/2 -3 0"), Step(HALF, [-3, 0]))
        self.assertEqual(str(Step(HALF, (Ratio(-4, 2), 0))), "1/2 -2 0")

    def test_wrong_texts(self):
        longer = "1" * 61
        self.reads_not(Step, {"": 0, "1": 1, "x": 0, " ": 0, "1 ": 1, "1 x": 1, "x 1": 0, "1 2 x": 2, "1 2 3 x": 3, "1 2 ": 2,
                              " 1 2": 0, "1  2": 1, "1 2  3": 2, "1 2 3 4 5": 4, "1 2 3 4 ": 4, "1 2 3 4 x": 4, "1 2/4": 1,
                              "+1 2": 0, f"{longer} 1": 0, f"1 {longer}": 1, f"1 1/{longer}": 1, f"1 2 -{longer}": 2, "1 2 /": 2,
                              "0 -0": 1, "1,2": 0, "1\t2": 0, "1 2\n": 1, f"1 2 3 4{' 5' * 9000}": 4})
        self.reads_no_values(Step)

    def test_a_long_number_is_written_but_not_read(self):
        text = str(Step(10 ** 5000, [1]))
        self.assertEqual(text, "1" + "0" * 5000 + " 1")
        self.refuses(BadText(0, 0), Step.read, text)
