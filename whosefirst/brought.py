"""What happenings bring: whoever has seen them has seen these, too."""

from whosefirst.asks import ask_happening
from whosefirst.books import ask_book
from whosefirst.news import ask_road, ask_some_of_road, greatest_lights, left_of, right_of
from whosefirst.ratios import greatest_of


def brought_by(book, names):
    """All names that some happenings bring, ascending."""
    ask_some_of_road(book, names)
    return names_brought(book, names)


def least_bringing(book, names):
    """The fewest of some happenings that bring all of them, ascending."""
    ask_some_of_road(book, names)
    right, left = greatest_lights(book, names)
    rights = [name for name in names if right_of(book, name) == right]
    lefts = [name for name in names if left_of(book, name) == left]
    both = [name for name in rights if name in lefts]
    if both:
        return tuple(both)
    far = greatest_of([left_of(book, name) for name in rights])
    late = greatest_of([right_of(book, name) for name in lefts])
    ends = [name for name in rights if left_of(book, name) == far]
    return tuple(sorted(ends + [name for name in lefts if right_of(book, name) == late]))


def bringers_of(book, name):
    """All ascending tuples of one or two other names that bring a happening, two only if neither does alone."""
    ask_book(book)
    ask_happening(book, name)
    ask_road(book)
    others = [other for other in book if other != name]
    alone = [other for other in others if name in names_brought(book, [other])]
    left = [other for other in others if other not in alone]
    pairs = [(one, other) for one in left for other in left if one < other]
    found = [pair for pair in pairs if name in names_brought(book, pair)]
    return tuple(sorted([(other,) for other in alone] + found))


def names_brought(book, names):
    """All names that one or more happenings of a road bring, ascending."""
    right, left = greatest_lights(book, names)
    late = [name for name in book if right.is_below(right_of(book, name)) or left.is_below(left_of(book, name))]
    return tuple([name for name in book if name not in late])
