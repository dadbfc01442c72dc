"""The worths of rows of riders as forms (A, B, C) of p, q and 1, as far as the sides of happenings are told."""

from whosefirst.forms import added_forms, opposite_form
from whosefirst.news import left_of, right_of
from whosefirst.ratios import Ratio
from whosefirst.rider_rows import RiderRow, SideRow, seen_names_of

FORM_SIZE = 3


def form_of_row(book, row, sides):
    """The form of the worth of a row of riders, None if it is unclear; sides has the told ones, left or right."""
    if isinstance(row, SideRow):
        return form_of_side(book, row.name, row.side)
    if not isinstance(row, RiderRow):
        return called_form(book, row.span)
    if untold_names(row, sides):
        return None
    marks = [mark_form(book, name, sides[name]) for name in row.seen.names]
    seen = added_forms(marks, [times for _, times in row.seen.terms], FORM_SIZE)
    return added_forms([called_form(book, row.called), seen], [Ratio(1, 2), Ratio(1)], FORM_SIZE)


def untold_names(row, sides):
    """The names whose sides must be told yet for the worth of a row to be clear."""
    return [name for name in seen_names_of(row) if name not in sides]


def form_of_side(book, name, side):
    """The form that is above 0 if a happening lies left, or right, and 0 if the rider goes through it."""
    form = [right_of(book, name), Ratio(1), -left_of(book, name)]
    return opposite_form(form) if side == "right" else form


def mark_form(book, name, side):
    """The form of the mark of a happening that lies left or right."""
    if side == "left":
        return [right_of(book, name), Ratio(0), Ratio(0)]
    return [Ratio(0), Ratio(-1), left_of(book, name)]


def called_form(book, span):
    """The form of the sum over a span of p u + w."""
    lights = [[right_of(book, name), Ratio(0), left_of(book, name)] for name in span.names]
    return added_forms(lights, [times for _, times in span.terms], FORM_SIZE)
