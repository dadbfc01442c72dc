"""The moves by which eyes pass the lights of a book on a road, and which of them keep what is told.

A state is a pair: how many right lights are passed, and how many left ones.
"""

from whosefirst.weaves import light_numbers, unlike_lights

BEGIN = (0, 0)


class Move:
    """A letter, the states from which and to which the move leads, the names seen ahead of it and with it."""

    def __init__(self, letter, begin, end, seen, fresh):
        self.letter = letter
        self.begin = begin
        self.end = end
        self.seen = seen
        self.fresh = fresh


def last_state(book):
    """The state in which all lights are passed."""
    rights, lefts = unlike_lights(book)
    return len(rights), len(lefts)


def all_moves(book):
    """All Moves of a book, those from lesser states first; each leads to a greater one."""
    last = last_state(book)
    lights = light_numbers(book)
    states = [(i, j) for i in range(last[0] + 1) for j in range(last[1] + 1)]
    seen = {(i, j): [name for name in book if lights[name][0] < i and lights[name][1] < j] for i, j in states}
    moves = []
    for i, j in states:
        for letter, end in (("u", (i + 1, j)), ("w", (i, j + 1)), ("b", (i + 1, j + 1))):
            if end in seen:
                fresh = [name for name in seen[end] if name not in seen[(i, j)]]
                moves.append(Move(letter, (i, j), end, seen[(i, j)], fresh))
    return moves


def moves_by_lots(book, lots):
    """All Moves of a book that keep some begun lots, as an order of all happenings is kept, too."""
    return [move for move in all_moves(book) if keeps_lots(move, lots)]


def keeps_lots(move, lots):
    """Whether what is seen with a move is the next one of the begun lots, or nothing, unless all of them are seen."""
    many = 0
    ahead = 0
    while many < len(lots) and all([name in move.seen for name in lots[many]]):
        ahead = ahead + len(lots[many])
        many = many + 1
    if many == len(lots):
        return True
    return ahead == len(move.seen) and (not move.fresh or move.fresh == sorted(list(lots[many])))


def keeps_cut(move, one, other, sign):
    """Whether a move lets other be seen behind one (1), with it (0), ahead of it (-1)."""
    if sign == 0:
        return (one in move.fresh) == (other in move.fresh)
    first, second = (one, other) if sign > 0 else (other, one)
    return second not in move.fresh or first in move.seen


def way_or_states(moves, last):
    """The letters of moves that lead from the begin to the last state, and None; or None, and states that are shut."""
    letters = {BEGIN: ""}
    # Those from lesser states come first, so each state that can be come to is by then.
    for move in moves:
        if move.begin in letters and move.end not in letters:
            letters[move.end] = letters[move.begin] + move.letter
    return (letters[last], None) if last in letters else (None, tuple(sorted(list(letters))))
