"""Rows: how a span is to be called."""

from whosefirst.books import ask_span
from whosefirst.checks import is_listed, is_name
from whosefirst.errors import BadRow
from whosefirst.spans import Span, take_span
from whosefirst.texts import Words

KINDS = (">", ">=", "=")


class AnyRow:
    """Above the rows of travellers, riders and eyes; not called itself."""


class Row(AnyRow):
    """A span and a kind: called late, late or level, level."""

    def __init__(self, span, kind):
        ask_span(span, "span")
        if not is_kind(kind):
            raise BadRow("kind")
        self.span = span
        self.kind = kind

    @staticmethod
    def ahead(one, other):
        """The row that one is ahead of other."""
        return row_between(one, other, ">")

    @staticmethod
    def level(one, other):
        """The row that one and other are level."""
        return row_between(one, other, "=")

    @staticmethod
    def read(text):
        """The Row with this text."""
        words = Words(text)
        row = take_row(words)
        words.finish()
        return row

    def contraries(self):
        """The rows of which whoever does not keep this one keeps just one, and all others none."""
        if self.kind == ">":
            return (Row(-self.span, ">="),)
        if self.kind == ">=":
            return (Row(-self.span, ">"),)
        return Row(self.span, ">"), Row(-self.span, ">")

    def __eq__(self, other):
        return isinstance(other, Row) and self.span == other.span and self.kind == other.kind

    def __str__(self):
        return f"{self.kind} {self.span}"


def is_row(value):
    """Whether any value is a row: of travellers, riders or eyes."""
    return isinstance(value, AnyRow) and type(value) is not AnyRow


def are_rows(values):
    """Whether any value is a list or a tuple of Rows."""
    return is_listed(values) and all([isinstance(row, Row) for row in values])


def is_kind(value):
    """Whether any value is a kind of rows."""
    return isinstance(value, str) and value in KINDS


def row_between(one, other, kind):
    """The row of a kind with the span between two names."""
    if not is_name(one):
        raise BadRow("one")
    if not is_name(other):
        raise BadRow("other")
    return Row(Span.between(one, other), kind)


def is_kept(kind, sign):
    """Whether a row of a kind is kept by whoever calls its span with this sign."""
    if kind == ">":
        return sign > 0
    return sign >= 0 if kind == ">=" else sign == 0


def take_row(words, ends=()):
    """The coming words of a text as a Row; its span goes on until one of the ends comes."""
    kind = words.take_of(KINDS)
    return Row(take_span(words, ends), kind)
