"""What lines tell a desk: deeds, which change what it keeps, and questions; read word by word, and answered."""

from whosefirst.asks import ask_happening
from whosefirst.brought import brought_by
from whosefirst.called import called_order
from whosefirst.callers import find_caller
from whosefirst.carried import carried_book
from whosefirst.chains import fewest_messengers
from whosefirst.clashes import least_clash
from whosefirst.flats import orders_count
from whosefirst.moved import mirrored_book
from whosefirst.paces import Pace, take_pace
from whosefirst.parts import patterns_count
from whosefirst.ratios import take_ratio
from whosefirst.records import fewest_records
from whosefirst.resting import resting_order
from whosefirst.riders import Rider, seen_order_of
from whosefirst.rows import take_row
from whosefirst.sayings import take_saying
from whosefirst.seen import find_eye
from whosefirst.seen_counts import seen_count
from whosefirst.tables import Table
from whosefirst.telling import kind_between
from whosefirst.words import word_of


class State:
    """What a desk keeps: a book, a tuple of told rows, and a dict from names to sayings."""

    def __init__(self, book, rows, sayings):
        self.book = book
        self.rows = rows
        self.sayings = sayings

    def with_book(self, book):
        """The State with another book."""
        return State(book, self.rows, self.sayings)

    def with_rows(self, rows):
        """The State with other told rows."""
        return State(self.book, tuple(rows), self.sayings)


def put(state, words):
    """`put NAME RATIO ..`: one happening more."""
    name = words.take_name("")
    numbers = [take_ratio(words) for _ in range(state.book.axes + 1)]
    words.finish()
    book = state.book.with_happening(name, numbers[0], numbers[1:])
    return state.with_book(book), f"put {len(book)}"


def drop(state, words):
    """`drop NAME`: a happening less, and the told rows that have it."""
    name = words.take_name("")
    words.finish()
    ask_happening(state.book, name)
    book = state.book.kept([other for other in state.book if other != name])
    rows = [row for row in state.rows if name not in row.span.names]
    return state.with_book(book).with_rows(rows), f"dropped {len(state.rows) - len(rows)}"


def tell_row(state, words):
    """`row ROW`: one told row more, if somebody keeps them all; no State otherwise."""
    row = take_row(words)
    words.finish()
    rows = [*state.rows, row]
    found = least_clash(state.book, rows)
    if found:
        return state.with_rows(rows), f"kept {len(rows)}"
    return None, " ".join(["clash", *[str(number) for number in found.numbers]])


def strike(state, words):
    """`strike NUMBER`: a told row less."""
    number = words.take_integer(0, len(state.rows) - 1)
    words.finish()
    rows = [row for at, row in enumerate(state.rows) if at != number]
    return state.with_rows(rows), f"struck {state.rows[number]}"


def carry(state, words):
    """`carry RATIO AXIS`: the book as a traveller has it."""
    ratio = take_ratio(words)
    axis = take_axis(state, words)
    return state.with_book(carried_book(state.book, ratio, axis)), "carried"


def mirror(state, words):
    """`mirror AXIS`: the book mirrored."""
    axis = take_axis(state, words)
    return state.with_book(mirrored_book(state.book, axis)), "mirrored"


def say(state, words):
    """`say NAME SAYING`: a saying kept under a name."""
    name = words.take_name("")
    saying = take_saying(words)
    return State(state.book, state.rows, {**state.sayings, name: saying}), f"said {len(saying.rows)}"


def show(state, words):
    """`show`: the book."""
    words.finish()
    return str(state.book)


def who(state, words):
    """`who`: a pace that keeps the told rows."""
    words.finish()
    return f"pace {find_caller(state.book, state.rows).pace}"


def word_kept(state, words):
    """`word KEPT`: the word of a saying that is kept, the told rows given."""
    name = words.take_of(list(state.sayings))
    words.finish()
    return word_of(state.book, state.sayings[name], state.rows).word


def order_called(state, words):
    """`order PACE`: the called order."""
    pace = take_pace(words)
    words.finish()
    return text_of_order(called_order(state.book, pace))


def kind(state, words):
    """`kind NAME NAME`: how the second of two happenings stands to the first one."""
    one, other = words.take_name(""), words.take_name("")
    words.finish()
    return kind_between(state.book, one, other)


def orders(state, words):
    """`orders`: how many called orders have no level pair."""
    words.finish()
    return str(orders_count(state.book))


def records(state, words):
    """`records`: how many records are needed to tell the book."""
    words.finish()
    return str(len(fewest_records(state.book).paces))


def messengers(state, words):
    """`messengers`: how many messengers are needed for all happenings."""
    words.finish()
    return str(len(fewest_messengers(state.book).chains))


def patterns(state, words):
    """`patterns`: how many patterns the table of the book has."""
    words.finish()
    return str(patterns_count(Table.of(state.book)))


def sees(state, words):
    """`sees RATIO RATIO`: the order that a rider of a pace and a stand sees."""
    part, stand = take_ratio(words), take_ratio(words)
    words.finish()
    return text_of_order(seen_order_of(state.book, Rider(Pace([part]), stand)))


def rests(state, words):
    """`rests RATIO`: the order that an eye sees that rests at a place."""
    place = take_ratio(words)
    words.finish()
    return text_of_order(resting_order(state.book, place))


def eye(state, words):
    """`eye LOTS`: a weave by which the book is seen in an order."""
    lots = [[words.take_name("")]]
    while not words.is_done():
        if words.coming() == "/":
            words.take()
            lots.append([words.take_name("")])
        else:
            lots[-1].append(words.take_name(""))
    found = find_eye(state.book, lots)
    return f"seen {found.weave}" if found else "unseen"


def brings(state, words):
    """`brings NAME ..`: what some happenings bring."""
    names = [words.take_name("")]
    while not words.is_done():
        names.append(words.take_name(""))
    return " ".join(brought_by(state.book, names))


def strict(state, words):
    """`strict`: how many strict orders some eye sees."""
    words.finish()
    return str(seen_count(state.book))


# Deeds give another State, or None for what is no deed, and the answer; questions just the answer.
DEEDS = {"put": put, "drop": drop, "row": tell_row, "strike": strike, "carry": carry, "mirror": mirror, "say": say}
QUESTIONS = {
    "show": show, "who": who, "word": word_kept, "order": order_called, "kind": kind, "orders": orders,
    "records": records, "messengers": messengers, "patterns": patterns, "sees": sees, "rests": rests, "eye": eye,
    "brings": brings, "strict": strict,
}


def answered(state, words):
    """The State behind a line, None if it stays, and the answer to the line."""
    word = words.take_of(list(DEEDS) + list(QUESTIONS))
    if word in DEEDS:
        deed = DEEDS[word]
        return deed(state, words)
    question = QUESTIONS[word]
    return None, question(state, words)


def take_axis(state, words):
    """The last word of a line as an axis of the book."""
    axis = words.take_integer(0, state.book.axes - 1)
    words.finish()
    return axis


def text_of_order(order):
    """An order as it stands in a line: names, with `/` between the lots."""
    return " / ".join([" ".join(lot) for lot in order])
