"""Point 5 and whosefirst/spans.py."""

from helpers import AlwaysEqual, Case, no_dicts, no_names, no_ratios, no_values, short
from whosefirst.errors import BadNumber, BadSpan
from whosefirst.ratios import Ratio
from whosefirst.spans import Span

HALF = Ratio(1, 2)


class Spans(Case):

    def test_attributes(self):
        span = Span({"c": 1, "a": HALF, "b": Ratio(-3, 2)})
        self.assertEqual(span.terms, (("a", HALF), ("b", Ratio(-3, 2)), ("c", 1)))
        self.assertIs(type(span.terms), tuple)
        for pair in span.terms:
            self.assertIs(type(pair), tuple)
            self.assertIs(type(pair[1]), Ratio)
        self.assertEqual(span.names, ("a", "b", "c"))
        self.assertIs(span.is_nothing, False)

    def test_noughts_are_left_out(self):
        self.assertEqual(Span({"a": 1, "b": 0, "c": -1, "d": Ratio(0)}).names, ("a", "c"))
        for terms in ({}, {"a": 0}, {"b": 0, "a": Ratio(0)}):
            span = Span(terms=terms)
            self.assertEqual((span.terms, span.names), ((), ()))
            self.assertIs(span.is_nothing, True)

    def test_wrong_terms(self):
        self.refuses_each(BadSpan("terms"), Span, no_dicts())
        for terms in ({"a": 1}, {"a": 1, "b": 1}, {"a": 1, "b": Ratio(-1, 2)}, {"a": HALF, "b": HALF, "c": Ratio(-1, 3)}):
            self.refuses(BadSpan("terms"), Span, terms)
        for key in (0, None, True, "", "A", "a b", "a" * 13, ("a",), b"a", 0.5):
            with self.subTest(key=short(key)):
                self.refuses(BadSpan("terms"), Span, {key: 0})
                self.refuses(BadSpan("terms"), Span, {"a": 1, key: -1})
        self.refuses_each(BadSpan("terms"), lambda value: Span({"a": value}), no_ratios())
        self.refuses_each(BadSpan("terms"), lambda value: Span({"a": 1, "b": value, "c": -1}), no_ratios())

    def test_between(self):
        self.assertEqual(Span.between("a", "b"), Span({"a": -1, "b": 1}))
        self.assertEqual(Span.between(other="a", one="b"), Span({"a": 1, "b": -1}))
        self.assertEqual(Span.between("z" * 12, "a").names, ("a", "z" * 12))
        self.assertIs(Span.between("a", "a").is_nothing, True)

    def test_between_wrong_names(self):
        self.refuses_each(BadSpan("one"), lambda value: Span.between(value, "a"), no_names())
        self.refuses_each(BadSpan("one"), lambda value: Span.between(value, value), no_names())
        self.refuses_each(BadSpan("other"), lambda value: Span.between("a", value), no_names())

    def test_number_of(self):
        span = Span({"a": 2, "b": -2})
        self.is_ratio(span.number_of("a"), 2)
        self.is_ratio(span.number_of(name="b"), -2)
        for value in [*no_names(), "c", "ab"]:
            self.is_ratio(span.number_of(value), 0)
        self.is_ratio(Span({}).number_of("a"), 0)

    def test_sums_and_differences(self):
        one, other = Span({"a": 1, "b": HALF, "c": Ratio(-3, 2)}), Span({"b": Ratio(1, 3), "c": Ratio(3, 2), "d": Ratio(-11, 6)})
        self.assertEqual((one + other).terms, (("a", 1), ("b", Ratio(5, 6)), ("d", Ratio(-11, 6))))
        self.assertEqual((one - other).terms, (("a", 1), ("b", Ratio(1, 6)), ("c", -3), ("d", Ratio(11, 6))))
        self.assertIs((one - one).is_nothing, True)
        self.assertEqual(one + Span({}), one)
        self.assertEqual(Span({}) - one, -one)
        self.assertEqual(Span.between("a", "b") + Span.between("b", "c"), Span.between("a", "c"))

    def test_multiples(self):
        span = Span({"a": 1, "b": HALF, "c": Ratio(-3, 2)})
        self.assertEqual((span * -2).terms, (("a", -2), ("b", -1), ("c", 3)))
        self.assertEqual(span * HALF + span * HALF, span)
        self.assertEqual((-span).terms, (("a", -1), ("b", Ratio(-1, 2)), ("c", Ratio(3, 2))))
        for nought in (0, Ratio(0)):
            self.assertEqual((span * nought).terms, ())
        self.assertEqual(-Span({}), Span({}))

    def test_wrong_values_for_operators(self):
        span = Span.between("a", "b")
        for value in [*no_values(), span.terms]:
            with self.subTest(value=short(value)):
                self.refuses(BadSpan("other"), lambda: span + value)
                self.refuses(BadSpan("other"), lambda: span - value)
        for value in [*no_ratios(), span]:
            with self.subTest(value=short(value)):
                self.refuses(BadNumber("ratio"), lambda: span * value)

    def test_equality(self):
        span = Span({"b": 1, "a": -1})
        self.assertTrue(span == Span({"a": Ratio(-1), "b": Ratio(2, 2), "c": 0}))
        self.assertFalse(span != Span({"a": -1, "b": 1}))
        self.differs(span, [Span({}), -span, span * 2, Span.between("a", "c"), Span.between("c", "b"), {"a": -1, "b": 1}, span.terms, "a -1 b 1",
                            *no_values()])
        self.differs(Span({}), [span, (), {}, "-", None])

    def test_what_is_passed_is_copied(self):
        terms = {"a": 1, "b": -1}
        span = Span(terms)
        terms["c"] = 0
        terms["a"] = 5
        self.assertEqual(str(span), "a 1 b -1")
        self.assertEqual(terms, {"a": 5, "b": -1, "c": 0})

    def test_texts(self):
        long = "9" * 60
        self.reads(Span, ["-", "a -1 b 1", "a 1/2 b 1/3 c -5/6", "a 1 b -1 c 1 d -1", f"a {long} {'z' * 12} -{long}", f"a 1/{long} b -1/{long}",
                          "a 1 a0 -2 aa 1", "a 3 b -3/2 c -3/2"])
        self.assertEqual(Span.read("a -1 b 1"), Span.between("a", "b"))
        self.assertEqual(str(Span({"z": 1, "b": -2, "y": 1})), "b -2 y 1 z 1")
        self.assertEqual(str(Span({"a": 0})), "-")

    def test_wrong_texts(self):
        longer = "1" * 61
        self.reads_not(Span, {"": 0, " ": 0, "a": 1, "a 1": 2, "a 1 ": 2, "a 1 b": 3, "a 1 b 2": 4, "a 1 b -1/2": 4, "- a": 1, "- ": 1, "- -": 1,
                              " -": 0, "-- ": 0, "1 a": 0, "A 1 b -1": 0, f"{'a' * 13} 1 b -1": 0, "a 0": 1, "a 0 b 0": 1, "a 1 b 0 c -1": 3,
                              "b 1 a -1": 2, "a 1 a -1": 2, "a 1 c -2 b 1": 4, "a b": 1, "a 1 1": 2, "a 1 -": 2, "a 1 b -1 ": 4,
                              "a 1 b -1 -": 4, "a 1 b -1 c": 5, "a 1 b -1 c 1": 6, "a 1 b -1 b 1": 4, "a 1 b -1 c 0": 5, "a 1 b -1 /": 4,
                              "a  1 b -1": 1, "a 1  b -1": 2, "a 2/2 b -1": 1, "a +1 b -1": 1, "a 1 b - 1": 3, f"a {longer} b -{longer}": 1,
                              f"a 1 b -{longer}": 3, f"a 1/{longer} b 1": 1, "a 1 B -1": 2, "a x b -1": 1, "a 1 b -1\n": 3, "a 1,b -1": 1})
        self.reads_no_values(Span)

    def test_a_name_that_is_equal_to_anything(self):
        self.is_ratio(Span.between("a", "b").number_of(AlwaysEqual()), 0)
