"""Point 3 and whosefirst/ratios.py."""

from fractions import Fraction
from math import gcd

from helpers import Case, no_integers, no_lists, no_ratios, short
from whosefirst.errors import BadRatio, BadText
from whosefirst.ratios import Ratio, are_ratios, greatest_of, is_ratio, least_of, summed

SOME = [(0, 1), (1, 1), (-1, 1), (1, 2), (-1, 2), (2, 3), (-3, 2), (7, 1), (-7, 3), (10 ** 70, 3), (-1, 10 ** 70)]


class Number(int):
    pass


class Ratios(Case):

    def test_lowest_terms_and_a_bottom_above_0(self):
        for top in range(-12, 13):
            for bottom in [*range(-12, 0), *range(1, 13)]:
                ratio, right = Ratio(top, bottom), Fraction(top, bottom)
                self.assertEqual((ratio.top, ratio.bottom), (right.numerator, right.denominator))
                self.assertEqual(ratio.sign, (right > 0) - (right < 0))
                self.assertEqual(gcd(ratio.top, ratio.bottom), 1)

    def test_numbers_of_any_size(self):
        ratio = Ratio(-6 * 10 ** 400, -4 * 7 ** 500)
        self.is_ratio(ratio, 15 * 10 ** 399, 7 ** 500)
        self.assertEqual(ratio.sign, 1)

    def test_the_bottom_is_1_if_none_is_told(self):
        self.is_ratio(Ratio(4), 4)
        self.is_ratio(Ratio(0), 0)
        self.is_ratio(Ratio(0, -5), 0)
        self.is_ratio(Ratio(bottom=-4, top=6), -3, 2)
        self.is_ratio(Ratio(Number(4), Number(6)), 2, 3)

    def test_wrong_tops_and_bottoms(self):
        self.refuses_each(BadRatio("top"), Ratio, no_integers())
        self.refuses_each(BadRatio("top"), lambda value: Ratio(value, 0), no_integers())
        self.refuses_each(BadRatio("bottom"), lambda value: Ratio(1, value), [*no_integers(), 0])
        self.refuses(BadRatio("bottom"), Ratio, 0, 0)

    def test_sums_differences_products(self):
        for one in SOME:
            for other in SOME:
                left, right = Ratio(*one), Ratio(*other)
                first, second = Fraction(*one), Fraction(*other)
                for got, due in ((left + right, first + second), (left - right, first - second), (left * right, first * second)):
                    self.is_ratio(got, due.numerator, due.denominator)
                self.assertIs(left.is_below(right), first < second)
                self.assertIs(left == right, first == second)
                self.assertIs(left != right, first != second)
                if second != 0:
                    due = first / second
                    self.is_ratio(left.over(right), due.numerator, due.denominator)

    def test_integers_on_the_right(self):
        half = Ratio(1, 2)
        self.is_ratio(half + 1, 3, 2)
        self.is_ratio(half - 1, -1, 2)
        self.is_ratio(half * 4, 2)
        self.is_ratio(half * 0, 0)
        self.is_ratio(half.over(-2), -1, 4)
        self.is_ratio(half.over(other=2), 1, 4)
        self.assertIs(half.is_below(1), True)
        self.assertIs(half.is_below(0), False)
        self.assertIs(half.is_below(other=half), False)

    def test_wrong_values_on_the_right(self):
        half = Ratio(1, 2)
        for value in no_ratios():
            with self.subTest(value=short(value)):
                self.refuses(BadRatio("other"), lambda: half + value)
                self.refuses(BadRatio("other"), lambda: half - value)
                self.refuses(BadRatio("other"), lambda: half * value)
                self.refuses(BadRatio("other"), half.over, value)
                self.refuses(BadRatio("other"), half.is_below, value)
        for value in (0, Ratio(0)):
            self.refuses(BadRatio("other"), half.over, value)

    def test_opposites_and_absolute_values(self):
        for top, bottom in SOME:
            self.is_ratio(-Ratio(top, bottom), -top, bottom)
            self.is_ratio(abs(Ratio(top, bottom)), abs(top), bottom)

    def test_a_ratio_is_false_if_it_is_0(self):
        self.assertEqual([bool(Ratio(top, 7)) for top in (-1, 0, 1)], [True, False, True])

    def test_equal_to_integers_of_its_worth_alone(self):
        self.assertTrue(Ratio(2) == 2 and 2 == Ratio(4, 2) and Ratio(-3) == -3 and Ratio(0) == 0 and Ratio(1) == Number(1))
        self.differs(Ratio(2), [3, -2, 0, Ratio(1, 2), Ratio(2, 3), Ratio(-2)])
        self.differs(Ratio(1, 2), [0, 1, 2, Ratio(1), Fraction(1, 2), 0.5, "1/2", (1, 2)])
        self.differs(Ratio(1), no_ratios())
        self.differs(Ratio(0), no_ratios())

    def test_texts(self):
        texts = {"0": (0, 1), "3": (3, 1), "-3": (-3, 1), "-3/2": (-3, 2), "1/2": (1, 2), "10/7": (10, 7)}
        texts[f"-{'9' * 60}/{'1' + '0' * 59}"] = (-int("9" * 60), 10 ** 59)
        texts["1" + "0" * 59] = (10 ** 59, 1)
        self.reads(Ratio, texts)
        for text, (top, bottom) in texts.items():
            self.is_ratio(Ratio.read(text), top, bottom)
            self.assertEqual(repr(Ratio(top, bottom)), text)
            self.assertEqual(str(Ratio(top, bottom)), text)

    def test_texts_of_no_ratio(self):
        words = ["", "4/2", "0/5", "-0", "+1", "3/1", "-0/1", "0/1", "1/0", "-1/0", "1/-2", "--1", "-", "/", "1/", "/2", "-/2", "1//2",
                 "1/2/3", "01", "-01", "1/02", "00", "1.5", "1e3", "1_0", "0x1", "a", "1a", "1\n", "\t1", "1\u00a0", "\u0661", "\u00b2",
                 "1/\u0662", "1/+2", "-1/ 2".split(" ")[0] + "x", "1" * 61, "-" + "1" * 61, "1/1" + "0" * 60, "0" * 61, "9" * 100000]
        self.reads_not(Ratio, {word: 0 for word in words})
        self.reads_not(Ratio, {"1 ": 1, "1 2": 1, " 1": 0, "1  ": 1, "1/2 /": 1, " ": 0, "x 1": 0})
        self.reads_no_values(Ratio)

    def test_texts_of_long_numbers(self):
        for length in (599, 600, 601, 1199, 1200, 1201, 4300, 4301, 20000):
            top = 10 ** (length - 1)
            self.assertEqual(str(Ratio(top)), "1" + "0" * (length - 1))
            self.assertEqual(repr(Ratio(-top - 7, 5)), "-1" + "0" * (length - 2) + "7/5")
            self.assertEqual(str(Ratio(3, top)), "3/1" + "0" * (length - 1))
            self.assertEqual(str(Ratio(top - 1)), "9" * (length - 1))

    def test_of(self):
        self.is_ratio(Ratio.of(-4), -4)
        self.is_ratio(Ratio.of(value=Ratio(2, 6)), 1, 3)
        self.refuses_each(BadRatio("value"), Ratio.of, no_ratios())

    def test_is_ratio(self):
        for value in (0, -5, 10 ** 99, Ratio(0), Ratio(1, 3), Number(2)):
            self.assertIs(is_ratio(value), True)
        for value in no_ratios():
            self.assertIs(is_ratio(value), False)
            self.assertIs(are_ratios([1, value]), False)
            self.assertIs(are_ratios((value, Ratio(1))), False)
        for value in ([], (), [1], (Ratio(1, 2), 3)):
            self.assertIs(are_ratios(value), True)
        for value in no_lists():
            self.assertIs(are_ratios(value), False)

    def test_sums_of_lists(self):
        self.is_ratio(summed([]), 0)
        self.is_ratio(summed(()), 0)
        self.is_ratio(summed([5]), 5)
        self.is_ratio(summed((Ratio(1, 2), -2, Ratio(1, 3))), -7, 6)

    def test_greatest_and_least(self):
        half = Ratio(1, 2)
        for ratios in ([half, 0, Ratio(2, 3)], (Ratio(2, 3), half, 0), [0, Ratio(2, 3), half, Ratio(2, 3), 0]):
            self.is_ratio(greatest_of(ratios), 2, 3)
            self.is_ratio(least_of(ratios), 0)
        self.is_ratio(greatest_of([-3]), -3)
        self.is_ratio(least_of([-3]), -3)
        self.is_ratio(greatest_of([-3, Ratio(-7, 2)]), -3)
        self.is_ratio(least_of([-3, Ratio(-7, 2)]), -7, 2)

    def test_wrong_lists(self):
        for call in (summed, greatest_of, least_of):
            self.refuses_each(BadRatio("ratios"), call, no_lists())
            self.refuses_each(BadRatio("ratios"), lambda value: call([1, value]), no_ratios())
            self.is_ratio(call(ratios=[Ratio(3, 2)]), 3, 2)
        for call in (greatest_of, least_of):
            self.refuses(BadRatio("ratios"), call, [])
            self.refuses(BadRatio("ratios"), call, ())

    def test_lists_that_are_passed_stay(self):
        numbers = [2, Ratio(1, 2), 1]
        self.assertEqual([summed(numbers), greatest_of(numbers), least_of(numbers)], [Ratio(7, 2), 2, Ratio(1, 2)])
        self.assertEqual(numbers, [2, Ratio(1, 2), 1])
        self.assertIs(type(numbers[0]), int)

    def test_what_is_read_is_read_once(self):
        self.refuses(BadText(0, 1), Ratio.read, "1/2 1/2")
