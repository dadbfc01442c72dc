"""The desk: a book, told rows and sayings, which is told lines and answers them."""

from whosefirst.books import ask_book
from whosefirst.checks import is_listed
from whosefirst.desk_lines import State, answered
from whosefirst.errors import BadLine, BadSaying, BadText, FirstError, Nothing
from whosefirst.texts import Words


class Desk:
    """A desk that was begun with a book, and the deeds that it was told since then."""

    def __init__(self, book, lines=()):
        ask_book(book)
        self.first = book
        self.book = book
        self.rows = ()
        self._state = State(book, (), {})
        self._past = []
        self.run(lines)

    def tell(self, line):
        """The answer to a line."""
        state, answer = answered(self._state, Words(line))
        if state is not None:
            self._past.append((line, self._state))
            self._take(state)
        return answer

    def run(self, lines):
        """The answers to some lines, in order; if one raises an error, nothing is changed by any of them."""
        if not is_listed(lines):
            raise BadLine(0, BadText(0, 0))
        state, past = self._state, list(self._past)
        answers = []
        for at, line in enumerate(lines):
            try:
                answers.append(self.tell(line))
            except FirstError as error:
                self._past = past
                self._take(state)
                raise BadLine(at, error) from error
        return answers

    def back(self):
        """Takes back the last deed, and returns its line."""
        if not self._past:
            raise Nothing()
        line, state = self._past.pop()
        self._take(state)
        return line

    def told_lines(self):
        """The lines of the deeds, without those that are taken back."""
        return tuple([line for line, _ in self._past])

    def kept_names(self):
        """The names under which sayings are kept, ascending."""
        return tuple(sorted(list(self._state.sayings)))

    def saying_of(self, name):
        """The saying that is kept under a name."""
        if not isinstance(name, str) or name not in self._state.sayings:
            raise BadSaying("name")
        return self._state.sayings[name]

    def __eq__(self, other):
        if not isinstance(other, Desk) or self.book != other.book or self.rows != other.rows:
            return False
        return self._state.sayings == other._state.sayings

    def _take(self, state):
        """Keeps what a State has."""
        self._state = state
        self.book = state.book
        self.rows = state.rows
