"""What all tests share: wrong values of many kinds, and how errors and texts are looked at."""

import unittest
from fractions import Fraction

from whosefirst.errors import BadText
from whosefirst.ratios import Ratio


class AlwaysEqual:
    """Equal to everything: a look by == or in alone takes it for anything."""

    def __eq__(self, other):
        return True

    __hash__ = None


class Unlikely:
    """May not be compared at all."""

    def __eq__(self, other):
        raise AssertionError("compared")

    __hash__ = None


def odd_values():
    """Values that are no integer, no ratio, no name, no list, no dict, no string and no value of the package."""
    return [None, True, False, 0.0, 1.0, 0.5, float("nan"), float("inf"), 1j, b"a", b"", {1, 2}, frozenset(), range(2),
            object(), int, str, Ratio, Fraction(1, 2), AlwaysEqual(), Unlikely(), len, iter([1]), Ellipsis]


def no_integers():
    return odd_values() + ["", "1", "a", [], [1], (), (1,), {}, {"a": 1}, Ratio(1), Ratio(1, 2)]


def no_ratios():
    return odd_values() + ["", "1", "1/2", "a", [], [1], (), (1,), {}, {"a": 1}]


def no_names():
    return odd_values() + [0, 1, Ratio(1), [], ["a"], ("a",), {"a": 1}, "", "A", "aB", "1a", "1", "a-b", "a b", " a", "a ",
                           "a\n", "a_b", "_a", "\u00e9", "a\u00e9", "a\u0661", "a" * 13, "a/b", "-"]


def no_lists():
    return odd_values() + [0, 1, Ratio(1), "", "a", "ab", {}, {"a": 1}, {0: 1}]


def no_dicts():
    return odd_values() + [0, 1, Ratio(1), "", "a", [], (), [("a", 1)], [["a", "b"]], (("a", 1), ("b", -1))]


def no_values():
    """Values of no class of the package but Ratio."""
    return odd_values() + [0, 1, Ratio(1), "", "a", "0", "-", "> -", [], (), {}, [0], ["a"], {"a": 0}]


def fields_of(error):
    return {name: value for name, value in vars(error).items() if not name.startswith("__")}


class Case(unittest.TestCase):

    def refuses(self, error, call, *args, **named):
        """The call raises an error of just this class, with just these fields."""
        try:
            got = call(*args, **named)
        except Exception as caught:  # whatever it is, it must be the one that is told
            self.assertIs(type(caught), type(error), f"{caught!r} for {error!r} {fields_of(error)}")
            told, asked = fields_of(caught), fields_of(error)
            self.assertEqual(sorted(told), sorted(asked))
            for name in asked:
                if told[name] is not asked[name]:
                    self.assertEqual(type(told[name]), type(asked[name]))
                    self.assertEqual(told[name], asked[name])
        else:
            self.fail(f"{got!r} instead of {error!r} {fields_of(error)}")

    def refuses_each(self, error, call, values):
        """The call raises the error for each of these values alone."""
        for value in values:
            with self.subTest(value=short(value)):
                self.refuses(error, call, value)

    def reads(self, cls, texts):
        """Each text is read as a value that has just this text."""
        for text in texts:
            with self.subTest(text=text[:80]):
                value = cls.read(text)
                self.assertIs(type(value), cls)
                self.assertEqual(str(value), text)
                self.assertEqual(cls.read(text=text), value)

    def reads_not(self, cls, words):
        """Each text is refused at the word that is told."""
        for text, word in words.items():
            with self.subTest(text=text[:80]):
                self.refuses(BadText(0, word), cls.read, text)

    def reads_no_values(self, cls):
        """What is no string is refused at word 0."""
        for value in odd_values() + [0, 1, Ratio(1), [], ["0"], ("0", "1"), {}, {"0": 1}]:
            with self.subTest(value=short(value)):
                self.refuses(BadText(0, 0), cls.read, value)

    def is_ratio(self, value, top, bottom=1):
        """The value is a Ratio, not an integer, with this top and this bottom."""
        self.assertIs(type(value), Ratio)
        self.assertEqual((value.top, value.bottom), (top, bottom))

    def are_all_ratios(self, values):
        self.assertIs(type(values), tuple)
        for value in values:
            self.assertIs(type(value), Ratio)

    def differs(self, value, others):
        """The value equals none of the others, in neither order."""
        for other in others:
            with self.subTest(other=short(other)):
                self.assertFalse(value == other)
                self.assertTrue(value != other)
                if not isinstance(other, (AlwaysEqual, Unlikely)):
                    self.assertFalse(other == value)


def short(value):
    """A value as a subtest may show it: its own class's words may be long, or wrong."""
    return f"{type(value).__name__} {value}"[:60] if isinstance(value, (int, str, list, tuple, dict)) else type(value).__name__
