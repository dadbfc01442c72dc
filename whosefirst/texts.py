"""Texts: words with single blanks between, read one by one."""

from whosefirst.checks import DIGITS, is_name, is_within
from whosefirst.errors import BadText

MOST_DIGITS = 60
BLOCK_LENGTH = 600


class Words:
    """The words of a text and how many of them are read; a word that cannot stand is told as BadText."""

    def __init__(self, text):
        if not isinstance(text, str):
            raise BadText(0, 0)
        self.words = text.split(" ")
        self.at = 0

    def is_done(self):
        """Whether no word is left."""
        return self.at == len(self.words)

    def coming(self):
        """The next word, None behind the last one."""
        return None if self.is_done() else self.words[self.at]

    def take(self):
        """The next word, which is there, and is read by this."""
        self.at = self.at + 1
        return self.words[self.at - 1]

    def take_of(self, allowed):
        """The next word, which must be one of the allowed ones."""
        if self.coming() not in allowed:
            raise BadText(0, self.at)
        return self.take()

    def take_name(self, above):
        """The next word, which must be a name greater than above."""
        word = self.coming()
        if not is_name(word) or word <= above:
            raise BadText(0, self.at)
        return self.take()

    def take_integer(self, least, most):
        """The next word, which must be an integer from least to most, None being no bound."""
        word = self.coming()
        if word is None or not is_whole(word) or not is_within(int(word), least, most):
            raise BadText(0, self.at)
        return int(self.take())

    def finish(self):
        """A word too many cannot stand."""
        if not self.is_done():
            raise BadText(0, self.at)


def are_digits(word):
    """Whether a word is 1 to 60 digits."""
    return 0 < len(word) <= MOST_DIGITS and all([sign in DIGITS for sign in word])


def is_whole(word):
    """Whether a word is the text of an integer from 0 on, without too many digits."""
    return are_digits(word) and (word == "0" or word[0] != "0")


def digits_of(number):
    """The text of an integer of any size; in blocks, as Python itself refuses to write thousands of digits at once."""
    block = (10 ** 60) ** 10
    rest = abs(number)
    blocks = []
    while rest >= block:
        rest, low = divmod(rest, block)
        blocks.append(str(low).zfill(BLOCK_LENGTH))
    blocks.append(str(rest))
    sign = "-" if number < 0 else ""
    return sign + "".join(reversed(blocks))
