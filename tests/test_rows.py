"""Point 10 and whosefirst/rows.py."""

from helpers import Case, no_names, no_values
from test_called import some_paces
from test_moved import some_books
from whosefirst.callers import keeps_rows
from whosefirst.errors import BadRow, BadSpan
from whosefirst.ratios import Ratio
from whosefirst.rows import AnyRow, Row
from whosefirst.spans import Span

GAP = Span.between("a", "b")


class Word(str):
    pass


class Rows(Case):

    def test_attributes(self):
        for kind in (">", ">=", "="):
            row = Row(GAP, kind)
            self.assertEqual((row.span, row.kind), (GAP, kind))
            self.assertIsInstance(row, AnyRow)
        self.assertEqual(Row(kind="=", span=Span({})).span, Span({}))
        self.assertEqual(Row(GAP, Word(">=")), Row(GAP, ">="))

    def test_wrong_values(self):
        self.refuses_each(BadSpan("span"), lambda value: Row(value, None), no_values())
        kinds = [*no_values(), "", "<", "<=", "==", "=>", "> ", " >", ">>", ">=="]
        self.refuses_each(BadRow("kind"), lambda value: Row(GAP, value), kinds)

    def test_ahead_and_level(self):
        self.assertEqual(Row.ahead("a", "b"), Row(GAP, ">"))
        self.assertEqual(Row.ahead(other="a", one="b"), Row(-GAP, ">"))
        self.assertEqual(Row.level("a", "b"), Row(GAP, "="))
        self.assertEqual(Row.level(other="a", one="b"), Row(-GAP, "="))
        for call, kind in ((Row.ahead, ">"), (Row.level, "=")):
            self.assertEqual(call("a", "a"), Row(Span({}), kind))
            self.refuses_each(BadRow("one"), lambda value: call(value, None), no_names())
            self.refuses_each(BadRow("one"), lambda value: call(value, value), no_names())
            self.refuses_each(BadRow("other"), lambda value: call("a", value), no_names())

    def test_contraries(self):
        for span in (GAP, Span({}), Span({"a": 1, "b": Ratio(1, 2), "c": Ratio(-3, 2)})):
            self.assertEqual(Row(span, ">").contraries(), (Row(-span, ">="),))
            self.assertEqual(Row(span, ">=").contraries(), (Row(-span, ">"),))
            self.assertEqual(Row(span, "=").contraries(), (Row(span, ">"), Row(-span, ">")))
            for kind in (">", ">=", "="):
                self.assertIs(type(Row(span, kind).contraries()), tuple)

    def test_who_does_not_keep_a_row_keeps_just_one_contrary(self):
        for book in some_books():
            for pace in some_paces(book.axes):
                for kind in (">", ">=", "="):
                    row = Row(Span.between(book.names[0], book.names[-1]), kind)
                    kept = [contrary for contrary in row.contraries() if keeps_rows(book, pace, [contrary])]
                    self.assertEqual(len(kept), 0 if keeps_rows(book, pace, [row]) else 1)

    def test_equality(self):
        row = Row(GAP, "=")
        self.assertTrue(row == Row(Span({"b": 1, "a": -1, "c": 0}), "="))
        self.assertFalse(row != Row(GAP, "="))
        self.differs(row, [Row(-GAP, "="), Row(GAP, ">="), Row(GAP, ">"), Row(GAP * 2, "="), Row(Span({}), "="), GAP, "= a -1 b 1", *no_values()])

    def test_texts(self):
        long = "9" * 60
        self.reads(Row, ["> a -1 b 1", ">= a 1 b -1", "= -", "> -", "= a 1/2 b 1/3 c -5/6", f">= a {long} b -{long}"])
        self.assertEqual(Row.read(">= a 2 c -2"), Row(Span.between("c", "a") * 2, ">="))
        self.assertEqual(str(Row(Span.between("b", "a"), "=")), "= a 1 b -1")

    def test_wrong_texts(self):
        self.reads_not(Row, {"": 0, "< a -1 b 1": 0, "a -1 b 1": 0, " > -": 0, "=> -": 0, ">": 1, ">=": 1, "> ": 1, "> - ": 2, "> - -": 2, "> a": 2,
                             "> a -1": 3, "> a -1 b": 4, "> a -1 b 2": 5, "> b 1 a -1": 3, "> a 1 a -1": 3, "> a 0 b 0": 2, "> a 1 b -1 c": 6,
                             "> a 1 b -1 ": 5, ">  a 1 b -1": 1, "> > a 1 b -1": 1, f"> a {'1' * 61} b 1": 2, "> A 1 b -1": 1, "= - a 1 b -1": 2,
                             ">=a 1 b -1": 0, "> a 2/2 b -1": 2, "> a 1 b -1 /": 5})
        self.reads_no_values(Row)
