"""Spans: names, each so many times, all adding up to 0."""

from whosefirst.asks import asked_ratio
from whosefirst.checks import is_name
from whosefirst.errors import BadSpan, BadText
from whosefirst.ratios import Ratio, is_ratio, summed, take_ratio
from whosefirst.texts import Words


class Span:
    """Some names, each with a ratio other than 0; these add up to 0."""

    def __init__(self, terms):
        if not are_terms(terms):
            raise BadSpan("terms")
        self.terms = tuple([(name, Ratio.of(terms[name])) for name in sorted(list(terms)) if terms[name] != 0])
        self.names = tuple([name for name, _ in self.terms])
        self.is_nothing = len(self.terms) == 0

    @staticmethod
    def between(one, other):
        """The span between two names: the other once, the one -1 times, nothing for equal names."""
        if not is_name(one):
            raise BadSpan("one")
        if not is_name(other):
            raise BadSpan("other")
        return Span({}) if one == other else Span({one: -1, other: 1})

    @staticmethod
    def read(text):
        """The Span with this text."""
        words = Words(text)
        span = take_span(words)
        words.finish()
        return span

    def number_of(self, name):
        """How many times a name is there: 0 for any value that is none of the names."""
        if isinstance(name, str):
            for known, ratio in self.terms:
                if known == name:
                    return ratio
        return Ratio(0)

    def __add__(self, other):
        ask_other(other)
        return joined(self, other)

    def __sub__(self, other):
        ask_other(other)
        return joined(self, -other)

    def __mul__(self, other):
        times = asked_ratio(other, "ratio")
        return Span({name: ratio * times for name, ratio in self.terms})

    def __neg__(self):
        return Span({name: -ratio for name, ratio in self.terms})

    def __eq__(self, other):
        return isinstance(other, Span) and self.terms == other.terms

    def __str__(self):
        if self.is_nothing:
            return "-"
        return " ".join([f"{name} {ratio}" for name, ratio in self.terms])


def are_terms(terms):
    """Whether any value is a dict from names to ratios that add up to 0."""
    if not isinstance(terms, dict) or not all([is_name(name) for name in terms]):
        return False
    ratios = list(terms.values())
    return all([is_ratio(ratio) for ratio in ratios]) and summed(ratios).sign == 0


def ask_other(other):
    """What is added to a span, or taken from it, must be a span."""
    if not isinstance(other, Span):
        raise BadSpan("other")


def joined(one, other):
    """The sum of two spans."""
    names = sorted(set([*one.names, *other.names]))
    return Span({name: one.number_of(name) + other.number_of(name) for name in names})


def take_span(words, ends=()):
    """The coming words of a text as a Span; it goes on as long as there are words and none of the ends comes."""
    if words.coming() == "-":
        words.take()
        return Span({})
    terms = {}
    above = ""
    while len(terms) == 0 or not (words.is_done() or words.coming() in ends):
        above = words.take_name(above)
        terms[above] = take_ratio(words)
        if terms[above].sign == 0:
            raise BadText(0, words.at - 1)
    if summed(list(terms.values())).sign != 0:
        raise BadText(0, words.at)
    return Span(terms)
