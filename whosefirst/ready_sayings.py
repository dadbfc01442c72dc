"""Sayings that are often asked: who is ahead of whom, who is first, what lasts longer."""

from whosefirst.asks import asked_ratio
from whosefirst.checks import are_names, first_twice, is_name
from whosefirst.errors import BadSaying, Twice
from whosefirst.rows import Row
from whosefirst.sayings import all_of, of_row
from whosefirst.spans import Span


def ahead_of(one, other):
    """The saying that other is late against one."""
    ask_name(one, "one")
    ask_name(other, "other")
    return of_row(Row.ahead(one, other))


def level_with(one, other):
    """The saying that other is level with one."""
    ask_name(one, "one")
    ask_name(other, "other")
    return of_row(Row.level(one, other))


def first_among(name, names):
    """The saying that no other name of a list is earlier than a name."""
    sayings = [of_row(Row(Span.between(name, other), ">=")) for other in asked_others(name, names)]
    return all_of(*sayings)


def last_among(name, names):
    """The saying that a name is no earlier than any other name of a list."""
    sayings = [of_row(Row(Span.between(other, name), ">=")) for other in asked_others(name, names)]
    return all_of(*sayings)


def lies_between(name, one, other):
    """The saying that a name is late against one of two names and early against the other one."""
    ask_name(name, "name")
    ask_name(one, "one")
    ask_name(other, "other")
    forth = ahead_of(one, name) & ahead_of(name, other)
    return forth | (ahead_of(other, name) & ahead_of(name, one))


def lasts_longer(one, other, third, fourth, times=1):
    """The saying that the span between two names lasts longer than so many times the one between two others."""
    ask_name(one, "one")
    ask_name(other, "other")
    ask_name(third, "third")
    ask_name(fourth, "fourth")
    share = asked_ratio(times, "times")
    return of_row(Row(Span.between(one, other) - Span.between(third, fourth) * share, ">"))


def ask_name(value, part):
    """A parameter must be a name."""
    if not is_name(value):
        raise BadSaying(part)


def asked_others(name, names):
    """The names of a list but a name itself, ascending; the parameters name and names must be such."""
    ask_name(name, "name")
    if not are_names(names):
        raise BadSaying("names")
    twice = first_twice(names)
    if twice is not None:
        raise Twice(twice)
    return [other for other in sorted(list(names)) if other != name]
