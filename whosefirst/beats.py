"""Beats of two travellers of a road: light that one sends and the other one meets."""

from whosefirst.asks import asked_above_nought
from whosefirst.errors import BadNumber
from whosefirst.ratios import Ratio, greatest_of, is_ratio, least_of


def beats_right(k, other, beats):
    """In how many beats of the other one the light comes in that the first one sends for some beats to the right."""
    sender, taker, many = asked_beats(k, other, beats)
    return many * taker.over(sender)


def beats_left(k, other, beats):
    """In how many beats of the other one the light comes in that the first one sends for some beats to the left."""
    sender, taker, many = asked_beats(k, other, beats)
    return many * sender.over(taker)


def echo_beats(k, other, beats):
    """At which beat of the first one the light comes back that it sent to the other one at some beats."""
    sender, taker, many = asked_beats(k, other, beats)
    both = [sender, taker]
    share = greatest_of(both).over(least_of(both))
    return many * share * share


def middle_beats(k, other, beats):
    """The beat with which the first one calls the meeting of the light with the other one level."""
    return (echo_beats(k, other, beats) + beats) * Ratio(1, 2)


def asked_beats(k, other, beats):
    """The three parameters as Ratios: two above 0, and one from 0 on."""
    sender, taker = asked_above_nought(k, "k"), asked_above_nought(other, "other")
    if not is_ratio(beats) or Ratio.of(beats).sign < 0:
        raise BadNumber("beats")
    return sender, taker, Ratio.of(beats)
