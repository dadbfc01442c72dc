"""Sayings: rows put together by not, and, or, and at least so many of."""

from whosefirst.checks import is_listed, is_within
from whosefirst.errors import BadNumber, BadRow, BadSaying, BadText, TooMany
from whosefirst.rows import Row, is_row, take_row
from whosefirst.texts import Words

MOST_ROWS = 8
PART_WORDS = ("row", "yes", "no", "not", "and", "or", "least")


class Saying:
    """Parts in one form, of which the last one is what is said."""

    def __init__(self, parts):
        if not are_parts(parts):
            raise BadSaying("parts")
        self.parts = one_form(parts)
        self.rows = tuple([part[1] for part in self.parts if part[0] == "row"])

    @staticmethod
    def read(text):
        """The Saying about calling with this text."""
        words = Words(text)
        return take_saying(words)

    def __len__(self):
        return len(self.parts)

    def __and__(self, other):
        ask_saying(other, "other")
        return put_together(("and",), (self, other))

    def __or__(self, other):
        ask_saying(other, "other")
        return put_together(("or",), (self, other))

    def __invert__(self):
        return put_together(("not",), (self,))

    def __eq__(self, other):
        return isinstance(other, Saying) and self.parts == other.parts

    def __str__(self):
        return " / ".join([text_of_part(part) for part in self.parts])


def yes():
    """The saying that always holds."""
    return Saying([("yes",)])


def no():
    """The saying that never holds."""
    return Saying([("no",)])


def of_row(row):
    """The saying that a row holds."""
    if not is_row(row):
        raise BadRow("row")
    return Saying([("row", row)])


def all_of(*sayings):
    """The saying that all of some sayings hold."""
    ask_sayings(sayings)
    if len(sayings) == 0:
        return yes()
    return sayings[0] if len(sayings) == 1 else put_together(("and",), sayings)


def any_of(*sayings):
    """The saying that one of some sayings holds, or more."""
    ask_sayings(sayings)
    if len(sayings) == 0:
        return no()
    return sayings[0] if len(sayings) == 1 else put_together(("or",), sayings)


def least_of(many, *sayings):
    """The saying that at least so many of some sayings hold."""
    if not is_within(many, 1, len(sayings)):
        raise BadNumber("many")
    ask_sayings(sayings)
    return put_together(("least", many), sayings)


def ask_saying(value, part):
    """A parameter must be a Saying."""
    if not isinstance(value, Saying):
        raise BadSaying(part)


def ask_sayings(values):
    """The parameters behind a star must all be Sayings."""
    for value in values:
        ask_saying(value, "sayings")


def is_about_calling(saying):
    """Whether all rows of a saying are Rows."""
    return all([isinstance(row, Row) for row in saying.rows])


def are_parts(parts):
    """Whether any value is a list of one part of a saying or more, with numbers of parts ahead only."""
    if not is_listed(parts) or len(parts) == 0:
        return False
    return all([is_part(part, many) for many, part in enumerate(parts)])


def is_part(part, many):
    """Whether any value is a part of a saying, behind so many parts."""
    if not is_listed(part) or len(part) == 0 or not isinstance(part[0], str):
        return False
    word, rest = part[0], part[1:]
    if word == "row":
        return len(rest) == 1 and is_row(rest[0])
    if word == "yes" or word == "no":
        return len(rest) == 0
    if word == "least":
        return len(rest) > 1 and is_within(rest[0], 1, len(rest) - 1) and are_ahead(rest[1:], many)
    if word == "not":
        return len(rest) == 1 and are_ahead(rest, many)
    return (word == "and" or word == "or") and len(rest) > 0 and are_ahead(rest, many)


def are_ahead(numbers, many):
    """Whether some values are all numbers of so many parts."""
    return all([is_within(number, 0, many - 1) for number in numbers])


def numbers_in(part):
    """The numbers of parts that a part bears."""
    if part[0] == "row":
        return ()
    return part[2:] if part[0] == "least" else part[1:]


def renumbered(part, numbers):
    """A part with other numbers of parts in the place of its own."""
    if part[0] == "row":
        return tuple(part)
    return (part[0], part[1], *numbers) if part[0] == "least" else (part[0], *numbers)


def one_form(parts):
    """The parts that the last one needs, equal ones once, each put down behind those whose numbers it bears."""
    form = []
    rows = []
    places = {}
    found = {}
    waiting = [len(parts) - 1]
    while waiting:
        at = waiting[-1]
        missing = [] if at in places else [number for number in numbers_in(parts[at]) if number not in places]
        if missing:
            # The last one that waits comes first: so they are put down from left to right.
            waiting.extend(list(reversed(missing)))
        else:
            waiting.pop()
            if at not in places:
                part = renumbered(parts[at], [places[number] for number in numbers_in(parts[at])])
                mark = mark_of(part, rows)
                if mark not in found:
                    found[mark] = len(form)
                    form.append(part)
                    if part[0] == "row":
                        rows.append(part[1])
                places[at] = found[mark]
    return tuple(form)


def mark_of(part, rows):
    """What equal parts have in common: a row is told by its number among the rows found, as rows are no keys."""
    if part[0] != "row":
        return part
    equal = [number for number, row in enumerate(rows) if row == part[1]]
    if equal:
        return ("row", equal[0])
    if len(rows) == MOST_ROWS:
        raise TooMany("rows", MOST_ROWS)
    return ("row", len(rows))


def put_together(head, sayings):
    """The saying with the parts of some sayings and, behind them, a part with this head over all of these."""
    parts = []
    lasts = []
    for saying in sayings:
        begin = len(parts)
        shifted = [renumbered(part, [number + begin for number in numbers_in(part)]) for part in saying.parts]
        parts.extend(shifted)
        lasts.append(len(parts) - 1)
    return Saying([*parts, (*head, *lasts)])


def text_of_part(part):
    """A part as it stands in a text."""
    return " ".join([str(word) for word in part])


def take_saying(words):
    """The coming words of a text, to its end, as a Saying about calling."""
    parts = [take_part(words, 0, 0)]
    rows = 1 if parts[0][0] == "row" else 0
    texts = {text_of_part(parts[0]): True}
    while not words.is_done():
        words.take_of(("/",))
        part = take_part(words, len(parts), rows)
        text = text_of_part(part)
        if text in texts:
            raise BadText(0, words.at - 1)
        texts[text] = True
        parts.append(part)
        rows = rows + 1 if part[0] == "row" else rows
    saying = Saying(parts)
    if saying.parts != tuple(parts):
        raise BadText(0, words.at - 1)
    return saying


def take_part(words, many, rows):
    """The coming words of a text as a part behind so many parts, so many of them rows."""
    if rows == MOST_ROWS and words.coming() == "row":
        raise BadText(0, words.at)
    word = words.take_of(PART_WORDS)
    if word == "row":
        return ("row", take_row(words, ("/",)))
    if word == "yes" or word == "no":
        return (word,)
    if word == "not":
        return ("not", words.take_integer(0, many - 1))
    head = ("least", words.take_integer(1, None)) if word == "least" else (word,)
    due = head[1] if word == "least" else 1
    numbers = []
    while len(numbers) < due or not (words.is_done() or words.coming() == "/"):
        numbers.append(words.take_integer(0, many - 1))
    return (*head, *numbers)
