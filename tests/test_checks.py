"""Point 2 and whosefirst/checks.py."""

from helpers import Case, no_integers, no_lists, no_names
from whosefirst.checks import are_names, first_twice, is_integer, is_listed, is_name, is_within
from whosefirst.ratios import Ratio


class Word(str):
    pass


class Number(int):
    pass


class Checks(Case):

    def test_integers_of_any_size(self):
        for value in (0, 1, -1, 10 ** 400, -10 ** 5000, Number(3)):
            self.assertIs(is_integer(value), True)

    def test_true_false_and_other_kinds_are_no_integers(self):
        for value in no_integers():
            self.assertIs(is_integer(value), False)

    def test_within_counts_both_bounds(self):
        self.assertEqual([is_within(value, 2, 4) for value in (1, 2, 3, 4, 5)], [False, True, True, True, False])
        self.assertEqual([is_within(value, 2, 2) for value in (1, 2, 3)], [False, True, False])
        self.assertIs(is_within(3, 4, 2), False)

    def test_none_is_no_bound(self):
        self.assertEqual([is_within(value, None, 4) for value in (-10 ** 90, 4, 5)], [True, True, False])
        self.assertEqual([is_within(value, 0, None) for value in (-1, 0, 10 ** 90)], [False, True, True])
        self.assertIs(is_within(-7, None, None), True)
        self.assertIs(is_within(value=1, least=1, most=1), True)

    def test_within_is_false_for_what_is_no_integer(self):
        for value in no_integers():
            self.assertIs(is_within(value, None, None), False)
            self.assertIs(is_within(value, 0, 5), False)

    def test_names(self):
        for value in ("a", "z", "b2", "z9", "a0", "az09", "a" * 12, "z" + "9" * 11, "abcdefghijkl", "mnopqrstuvwx", "yz0123456789",
                      Word("ab")):
            self.assertIs(is_name(value), True)

    def test_no_names(self):
        for value in no_names():
            self.assertIs(is_name(value), False)
        self.assertIs(is_name("a" * 100000), False)

    def test_listed(self):
        for value in ([], (), [1], ("a", None)):
            self.assertIs(is_listed(value), True)
        for value in no_lists():
            self.assertIs(is_listed(value), False)

    def test_lists_of_names(self):
        for value in ([], (), ["a"], ("a", "b", "a"), ["a" * 12]):
            self.assertIs(are_names(value), True)
        for value in no_lists():
            self.assertIs(are_names(value), False)
        for value in no_names():
            self.assertIs(are_names([value]), False)
            self.assertIs(are_names(("a", value)), False)
            self.assertIs(are_names([value, "a"]), False)

    def test_first_twice(self):
        self.assertEqual(first_twice(["a", "b", "b", "a"]), "b")
        self.assertEqual(first_twice(("a", "b", "a", "b")), "a")
        self.assertEqual(first_twice([3, 0, 1, 0, 3]), 0)
        self.assertEqual(first_twice(values=[5, 5]), 5)
        for values in ([], (), ["a"], ["a", "b", "ab"], [0, 1, 2]):
            self.assertIsNone(first_twice(values))

    def test_a_ratio_is_no_integer(self):
        self.assertIs(is_integer(Ratio(2)), False)
        self.assertIs(is_within(Ratio(2), 0, 3), False)
