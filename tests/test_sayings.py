"""Point 12, whosefirst/sayings.py."""

import random
from itertools import product

from helpers import Case, no_integers, no_lists, no_values
from own import holds, settled
from whosefirst.errors import BadNumber, BadRow, BadSaying, BadText, TooMany
from whosefirst.ratios import Ratio
from whosefirst.rows import AnyRow, Row
from whosefirst.sayings import Saying, all_of, any_of, least_of, no, of_row, yes
from whosefirst.spans import Span

ROWS = [Row.ahead("a", f"b{at}") for at in range(12)]
ONE, OTHER = of_row(ROWS[0]), of_row(ROWS[1])


class OwnRow(AnyRow):
    """A row of a class that the package does not know."""

    def __init__(self, word):
        self.word = word
        self.kind = ">"

    def __eq__(self, other):
        return type(other) is OwnRow and other.word == self.word

    __hash__ = None


def own_form(parts):
    """The one form, by the walk as the document tells it, from the top down."""
    form = []

    def put(at):
        word, *rest = parts[at]
        if word == "row":
            part = ("row", rest[0])
        else:
            begin = 1 if word == "least" else 0
            part = (word, *rest[:begin], *[put(number) for number in rest[begin:]])
        for number, known in enumerate(form):
            if known == part:
                return number
        form.append(part)
        return len(form) - 1

    put(len(parts) - 1)
    return tuple(form)


def random_parts(source, many, rows):
    parts = []
    for at in range(many):
        word = source.choice(["row", "yes", "no", "not", "and", "or", "least"] if at else ["row", "row", "yes", "no"])
        numbers = [source.randrange(at) for _ in range(source.randint(1, 4))] if at else []
        if word == "row":
            parts.append((word, source.choice(rows)))
        elif word in ("yes", "no"):
            parts.append((word,))
        elif word == "not":
            parts.append((word, numbers[0]))
        elif word == "least":
            parts.append((word, source.randint(1, len(numbers)), *numbers))
        else:
            parts.append((word, *numbers))
    return parts


def truth_of(parts, known):
    """Whether parts hold, from the last one down; known tells which rows hold, by their texts."""
    word, *rest = parts[-1]
    if word == "row":
        return known[str(rest[0])]
    below = [truth_of(parts[:number + 1], known) for number in (rest[1:] if word == "least" else rest)]
    return {"yes": True, "no": False, "not": not any(below), "and": all(below), "or": any(below),
            "least": sum(below) >= (rest[0] if word == "least" else 0)}[word]


class Sayings(Case):

    def test_one_form(self):
        source = random.Random(30)
        for _ in range(300):
            parts = random_parts(source, source.randint(1, 10), ROWS[:4])
            saying = Saying(parts)
            self.assertEqual(saying.parts, own_form(parts))
            self.assertEqual(saying.rows, tuple(part[1] for part in saying.parts if part[0] == "row"))
            self.assertEqual(len(saying), len(saying.parts))
            self.assertEqual(Saying(saying.parts), saying)
            for values in product((True, False), repeat=4):
                known = dict(zip(map(str, ROWS), values))
                self.assertEqual(truth_of(saying.parts, known), truth_of(parts, known))

    def test_what_is_kept_of_parts(self):
        self.assertEqual(Saying([("no",), ("yes",), ("not", 1), ("or", 2, 1)]).parts, (("yes",), ("not", 0), ("or", 1, 0)))
        self.assertEqual(Saying([("yes",), ("no",), ("row", ROWS[0])]).parts, (("row", ROWS[0]),))
        self.assertEqual(Saying([("row", ROWS[0]), ("and", 0, 0)]).parts, (("row", ROWS[0]), ("and", 0, 0)))
        self.assertEqual(Saying([("yes",), ("yes",), ("and", 0), ("and", 1), ("or", 3, 2)]).parts, (("yes",), ("and", 0), ("or", 1, 1)))
        self.assertEqual(Saying([("yes",), ("not", 0), ("not", 1), ("not", 2)]).parts, (("yes",), ("not", 0), ("not", 1), ("not", 2)))
        copies = [("row", Row.ahead("a", "b")), ["row", Row.read("> a -1 b 1")], ("least", 2, 1, 0, 1)]
        self.assertEqual(Saying(copies).parts, (("row", Row.ahead("a", "b")), ("least", 2, 0, 0, 0)))
        self.assertEqual(Saying([("row", Row.level("a", "b")), ("row", Row.level("b", "a")), ("and", 1, 0)]).rows, (Row.level("b", "a"), Row.level("a", "b")))

    def test_lists_and_tuples(self):
        self.assertEqual(Saying([["yes"], ["not", 0], ["least", 1, 1, 0]]), Saying((("yes",), ("not", 0), ("least", 1, 1, 0))))
        saying = Saying(parts=[["row", ROWS[0]], ["not", 0]])
        self.assertEqual([type(saying.parts), type(saying.parts[0]), type(saying.rows)], [tuple, tuple, tuple])

    def test_what_is_passed_is_copied(self):
        parts = [["yes"], ["no"], ["or", 0, 1]]
        saying = Saying(parts)
        parts[2].append(0)
        self.assertEqual(saying.parts, (("yes",), ("no",), ("or", 0, 1)))

    def test_wrong_parts(self):
        self.refuses_each(BadSaying("parts"), Saying, [*no_lists(), [], ()])
        self.refuses_each(BadSaying("parts"), lambda value: Saying([value]), [*no_lists(), *no_values(), [], (), ["row"], ["yes", 0], ["maybe"], [("yes",)]])
        self.refuses_each(BadSaying("parts"), lambda value: Saying([("yes",), value, ("yes",)]), [*no_lists(), []])
        for word in ("row", "yes", "no", "not", "and", "or", "least", "Yes", "not ", "nobody", "", "cut"):
            wrong = [(word, -1), (word, 1), (word, 0, None), (word, 0, 1), (word, 0, -1), (word, 0, Ratio(0)), (word, False), (word, "0"), (word, 2, 0)]
            wrong += [] if word in ("and", "or", "not") else [(word, 0)]
            wrong += [] if word in ("and", "or") else [(word, 0, 0)]
            wrong += [] if word in ("yes", "no") else [(word,)]
            for part in wrong:
                self.refuses(BadSaying("parts"), Saying, [("yes",), part])
                self.refuses(BadSaying("parts"), Saying, [("yes",), part, ("yes",)])
        for at in range(2, 5):
            self.refuses_each(BadSaying("parts"), lambda value: Saying([("no",), [*("and", 0, 0, 0, 0)[:at], value]]), no_integers())
        self.refuses_each(BadSaying("parts"), lambda value: Saying([("yes",), (value, 0)]), [*no_values(), ("not",)])

    def test_least_n(self):
        for n in (1, 2, 3):
            self.assertEqual(Saying([("yes",), ("least", n, 0, 0, 0)]).parts[1], ("least", n, 0, 0, 0))
        for n in (0, 4, -1, True, Ratio(1), None, "1"):
            self.refuses(BadSaying("parts"), Saying, [("yes",), ("least", n, 0, 0, 0)])
        self.refuses(BadSaying("parts"), Saying, [("yes",), ("least", 1)])
        self.refuses(BadSaying("parts"), Saying, [("yes",), ("least",)])

    def test_any_row(self):
        row = OwnRow("x")
        saying = Saying([("row", row), ("row", OwnRow("x")), ("row", ROWS[0]), ("or", 0, 1, 2)])
        self.assertEqual(len(saying), 3)
        self.assertEqual(saying.rows, (row, ROWS[0]))
        self.assertEqual(of_row(row).rows, (row,))
        for value in [*no_values(), AnyRow(), "> a -1 b 1", Span({})]:
            self.refuses(BadSaying("parts"), Saying, [("row", value)])
            self.refuses(BadSaying("parts"), Saying, [("row", ROWS[0], value)])

    def test_8_and_9_rows(self):
        parts = [("row", row) for row in ROWS]
        self.assertEqual(len(Saying([*parts[:8], ("and", *range(8))]).rows), 8)
        self.assertEqual(len(Saying([*parts, *parts, ("or", 11, 23, 4, 5, 6, 7, 8, 9, 10)]).rows), 8)
        self.assertEqual(len(Saying([*parts, ("and", 0)])), 2)
        self.refuses(TooMany("rows", 8), Saying, [*parts, ("and", *range(9))])
        self.refuses(TooMany("rows", 8), Saying, [*parts, ("and", *range(9)), ("not", 12)])
        self.refuses(BadSaying("parts"), Saying, [*parts, ("and", *range(9)), ("not", 13)])

    def test_equality(self):
        self.assertTrue(ONE & OTHER == Saying([("row", ROWS[1]), ("row", ROWS[0]), ("and", 1, 0)]))
        self.assertFalse(ONE != of_row(ROWS[0]))
        self.differs(ONE, [OTHER, ONE & ONE, ~ONE, ROWS[0], str(ONE), ONE.parts, *no_values()])
        self.differs(ONE & OTHER, [OTHER & ONE, ONE | OTHER, all_of(ONE, OTHER, ONE), least_of(2, ONE, OTHER)])

    def test_operators(self):
        self.assertEqual((ONE & OTHER).parts, (("row", ROWS[0]), ("row", ROWS[1]), ("and", 0, 1)))
        self.assertEqual((ONE | OTHER).parts, (("row", ROWS[0]), ("row", ROWS[1]), ("or", 0, 1)))
        self.assertEqual((~ONE).parts, (("row", ROWS[0]), ("not", 0)))
        self.assertEqual((~~ONE).parts, (("row", ROWS[0]), ("not", 0), ("not", 1)))
        self.assertEqual((ONE | ONE).parts, (("row", ROWS[0]), ("or", 0, 0)))
        self.assertEqual(((ONE & OTHER) | (OTHER & ONE)).parts, (("row", ROWS[0]), ("row", ROWS[1]), ("and", 0, 1), ("and", 1, 0), ("or", 2, 3)))
        self.assertEqual((least_of(1, OTHER, yes()) & ONE).parts, (("row", ROWS[1]), ("yes",), ("least", 1, 0, 1), ("row", ROWS[0]), ("and", 2, 3)))
        many = any_of(*[of_row(row) for row in ROWS[:8]])
        for call in (lambda one, other: one & other, lambda one, other: one | other):
            for value in [*no_values(), ROWS[0], AnyRow()]:
                self.refuses(BadSaying("other"), call, ONE, value)
                self.refuses(BadSaying("other"), call, many, value)
            self.refuses(TooMany("rows", 8), call, many, of_row(ROWS[9]))
            self.assertEqual(len(call(many, of_row(ROWS[7])).rows), 8)

    def test_yes_no_of_row(self):
        self.assertEqual([yes().parts, no().parts, of_row(ROWS[0]).parts], [(("yes",),), (("no",),), (("row", ROWS[0]),)])
        self.assertEqual([yes().rows, len(no()), of_row(row=ROWS[0])], [(), 1, ONE])
        self.refuses_each(BadRow("row"), of_row, [*no_values(), AnyRow(), ONE, "> -"])

    def test_all_of_any_of_least_of(self):
        self.assertEqual([all_of(), any_of()], [yes(), no()])
        self.assertEqual([all_of(ONE), any_of(ONE)], [ONE, ONE])
        self.assertEqual(str(least_of(1, ONE)), f"row {ROWS[0]} / least 1 0")
        self.assertEqual(all_of(ONE, OTHER, ONE).parts[-1], ("and", 0, 1, 0))
        self.assertEqual(any_of(ONE, ~OTHER, no()).parts, (("row", ROWS[0]), ("row", ROWS[1]), ("not", 1), ("no",), ("or", 0, 2, 3)))
        self.assertEqual(least_of(2, ONE, OTHER, ONE).parts[-1], ("least", 2, 0, 1, 0))
        for wrong in [*no_integers(), 0, -1, 3]:
            self.refuses(BadNumber("many"), least_of, wrong, ONE, OTHER)
            self.refuses(BadNumber("many"), least_of, wrong, ONE, None)
        self.refuses(BadNumber("many"), least_of, 1)
        for value in [*no_values(), ROWS[0], [ONE]]:
            for call in (all_of, any_of, lambda *sayings: least_of(1, *sayings)):
                self.refuses(BadSaying("sayings"), call, value)
                self.refuses(BadSaying("sayings"), call, *[of_row(row) for row in ROWS], value)
        for call in (all_of, any_of, lambda *sayings: least_of(3, *sayings)):
            self.refuses(TooMany("rows", 8), call, *[of_row(row) for row in ROWS[:9]])
            self.assertEqual(len(call(*[of_row(row) for row in ROWS[:8]]).rows), 8)

    def test_meaning(self):
        for first, second in product((True, False), repeat=2):
            known = {0: first, 1: second}
            self.assertEqual([settled(saying.parts, known) for saying in (ONE & OTHER, ONE | OTHER, ~ONE, least_of(1, ONE, OTHER), least_of(2, ONE, OTHER))],
                             [first and second, first or second, not first, first or second, first and second])
        self.assertTrue(holds(">=", 0))

    def test_thousands_of_parts(self):
        deep = [("row", ROWS[0]), *[("not", at) for at in range(8000)]]
        self.assertEqual(len(Saying(deep)), 8001)
        text = str(Saying(deep))
        self.assertEqual(Saying.read(text[:text.rindex(" / ", 0, 90000)]).parts[-1][0], "not")
        wide = [("yes",), ("and", *[0] * 20000)]
        self.assertEqual(Saying(wide).parts, tuple(wide))
        doubled = [("yes",), *[("or", at, at) for at in range(300)]]
        self.assertEqual(len(Saying(doubled)), 301)
        self.assertEqual(len(Saying([("yes",)] * 5000 + [("and", *range(5000))])), 2)


class Texts(Case):

    def test_texts(self):
        row = "row > a -1 b 1"
        self.reads(Saying, ["yes", "no", row, "row = -", "yes / not 0", "yes / and 0", f"{row} / or 0 0", "yes / least 2 0 0", "yes / least 1 0 0 0",
                            f"{row} / row >= a 1/2 b -1/2 / yes / not 2 / least 2 0 1 3 0", f"{row} / row > a -1 b 1 c -1 d 1 / and 0 1", "no / yes / or 0 1",
                            "row > - / row >= - / row = - / and 0 1 2", "yes / not 0 / not 1 / and 2 0"])
        self.assertEqual(str(ONE & ~OTHER), "row > a -1 b0 1 / row > a -1 b1 1 / not 1 / and 0 2")

    def test_random_texts(self):
        source = random.Random(31)
        for _ in range(200):
            saying = Saying(random_parts(source, source.randint(1, 9), ROWS[:3]))
            again = Saying.read(str(saying))
            self.assertEqual((again, again.parts, str(again)), (saying, saying.parts, str(saying)))

    def test_wrong_texts(self):
        row, long = "row > a -1 b 1", "1" * 61
        self.reads_not(Saying, {
            "": 0, " ": 0, "Yes": 0, "yes ": 1, " yes": 0, "yes yes": 1, "yes 0": 1, "/": 0, "/ yes": 0, "yes /": 2, "yes / ": 2, "yes / /": 2, "maybe": 0,
            "yes  / not 0": 1, "yes/not 0": 0,
            "row": 1, "row a": 1, "row >": 2, "row > -  ": 3, "row > - a": 3, "row > a": 3, "row > a -1": 4, "row > a -1 /": 4, "row > a -1 b": 5, "row > a -1 b 2": 6,
            "row > a -1 b 2 / not 0": 6, "row > a -1 b 1 X": 6, "row > a -1 b 1 a": 6, "row > a 0": 3, "row > / not 0": 2, "row / not 0": 1, "row > b 1 a -1": 4,
            f"row > a {long} b 1": 3, "row < a -1 b 1": 1, "row row > a -1 b 1": 1, "row riderrow > - ; a -1 b 1": 1, "row siderow a left": 1,
            "row seenrow > a b": 1, f"{row} / row > - ; a -1 b 1": 10,
            "not": 1, "not 0": 1, "and": 1, "and 0": 1, "or 0": 1, "least": 1, "least 1": 2, "least 1 0": 2,
            "yes / not": 3, "yes / not 1": 3, "yes / not -1": 3, "yes / not 00": 3, "yes / not +0": 3, "yes / not 0 0": 4, "yes / not /": 3, "yes / not x": 3,
            "yes / and": 3, "yes / and /": 3, "yes / and 1": 3, "yes / and 0 1": 4, "yes / and 0 x": 4, "yes / and 0 0 2": 5, "yes / or 0 ": 4, "yes / or 01": 3,
            "yes / least 0 0": 3, "yes / least -1 0": 3, "yes / least 1": 4, "yes / least 1 1": 4, "yes / least 1 /": 4, "yes / least 2 0": 5,
            "yes / least 2 0 / not 0": 5, "yes / least 01 0": 3, f"yes / least {long} 0": 3, "yes / least x 0": 3, "yes / least 3 0 0 / no": 6,
            "yes / least 1/2 0": 3, f"yes / least {'9' * 60} 0": 5})
        self.reads_no_values(Saying)

    def test_equal_parts(self):
        row = "row > a -1 b 1"
        self.reads_not(Saying, {"yes / yes": 2, "yes / yes / and 0 1": 2, "yes / yes x": 2, "no / no /": 2, f"{row} / {row}": 12, f"{row} / {row} / or 0 1": 12,
                                f"{row} / {row} X": 13, f"{row} / {row} c": 14, "row > - / row > -": 6, "row > - / row > - x": 6, "yes / not 0 / not 0": 6,
                                "yes / not 0 / not 0 / or 1 2": 6, "yes / not 0 / not 0 0": 6, "yes / and 0 0 / and 0 0": 8, "yes / and 0 0 / and 0 0 x": 9,
                                "yes / least 1 0 / least 1 0 / and 1 2": 8})
        self.reads(Saying, ["yes / and 0 / and 0 0 / or 1 2", f"{row} / {row} c 1 d -1 / and 0 1"])

    def test_parts_that_are_not_needed_or_stand_in_another_order(self):
        row = "row > a -1 b 1"
        self.reads_not(Saying, {"yes / no": 2, f"yes / {row}": 7, "yes / no / not 0": 5, "yes / no / or 1 0": 6, "yes / no / not 1 / or 2 0 0": 10,
                                "yes / not 0 / not 1 / not 0 / or 2 3": 9, f"{row} / yes / not 0": 10})

    def test_8_and_9_rows(self):
        rows = [f"row > a -1 b{at} 1" for at in range(9)]
        numbers = " ".join(str(at) for at in range(8))
        self.reads(Saying, [" / ".join([*rows[:8], f"and {numbers}"])])
        self.reads_not(Saying, {" / ".join([*rows, f"and {numbers} 8"]): 56, " / ".join([*rows[:8], "row"]): 56, " / ".join([*rows[:8], "row x"]): 56,
                                " / ".join([*rows[:8], "yes", f"and {numbers}", rows[8]]): 68})

    def test_bent_texts(self):
        """A word left out, put in, exchanged, a cut text: what is read has this text, or the index fits that of the words ahead alone."""
        source = random.Random(32)
        pool = ["yes", "no", "row", "not", "and", "or", "least", "/", "0", "1", "2", "9", ">", ">=", "=", "-", "a", "b0", "-1", "1/2", "", "x y", "10", "00"]
        refused = 0
        for _ in range(300):
            words = str(Saying(random_parts(source, source.randint(1, 6), ROWS[:2]))).split(" ")
            at = source.randrange(len(words))
            bent = source.choice([words[:at] + words[at + 1:], words[:at] + [source.choice(pool)] + words[at:], words[:at] + [source.choice(pool)] + words[at + 1:],
                                  words[:at]])
            text = " ".join(bent)
            word = self.word_of(text)
            if word is not None:
                refused += 1
                bent = text.split(" ")
                self.assertTrue(0 <= word <= len(bent))
                # What stands ahead of the word told can be gone on with: alone it is read, ends too early, or ends with what only the whole shows.
                self.assertIn(self.word_of(" ".join(bent[:word])) if word else None, (None, word, word - 1))
        self.assertGreater(refused, 150)

    def word_of(self, text):
        """The word told for a text, None if it is read."""
        try:
            saying = Saying.read(text)
        except BadText as error:
            self.assertEqual(error.line, 0)
            return error.word
        self.assertEqual(str(saying), text)
        return None
