"""Whether papers about what eyes see are right."""

from whosefirst.check_words import is_fresh
from whosefirst.checks import is_integer, is_listed
from whosefirst.eye_words import ask_eye_word, holds_in, moves_by_cut
from whosefirst.lots import lot_numbers
from whosefirst.seen import SeenBy, Unseen, ask_whole_order
from whosefirst.settling import settled_parts
from whosefirst.states import BEGIN, last_state, moves_by_lots
from whosefirst.weaves import Weave, does_fit, order_woven
from whosefirst.words import Always, Never, Open


def shows_seen(book, order, value):
    """Whether any value is a SeenBy of a weave that sees an order, or an Unseen of states that are shut for it."""
    ask_whole_order(book, order)
    if type(value) is Unseen:
        return are_shut(book, moves_by_lots(book, order), value.states)
    return type(value) is SeenBy and is_weave_for(book, order, value.weave)


def shows_eye_word(book, saying, begun, value):
    """Whether any value is an Always or a Never with a right tree, or an Open with two weaves that show it."""
    ask_eye_word(book, saying, begun)
    if type(value) is Always:
        return is_right_tree(book, saying, value.tree, moves_by_lots(book, begun), {}, True)
    if type(value) is Never:
        return is_right_tree(book, saying, value.tree, moves_by_lots(book, begun), {}, False)
    if type(value) is not Open:
        return False
    if not is_weave_for(book, begun, value.one) or not is_weave_for(book, begun, value.other):
        return False
    return holds_in(order_woven(book, value.one), saying) and not holds_in(order_woven(book, value.other), saying)


def is_weave_for(book, begun, weave):
    """Whether any value is a Weave that fits, and by which some lots are seen first."""
    if not isinstance(weave, Weave) or not does_fit(book, weave):
        return False
    lots = order_woven(book, weave)[:len(begun)]
    return lot_numbers(lots) == lot_numbers(begun)


def are_shut(book, moves, states):
    """Whether any value is a list of states of a book, each once, that are shut: none of these moves leaves them."""
    last = last_state(book)
    if not is_listed(states) or not all([is_state(state, last) for state in states]):
        return False
    known = {(i, j): True for i, j in states}
    if len(known) != len(states) or BEGIN not in known or last in known:
        return False
    return all([move.end in known for move in moves if move.begin in known])


def is_state(value, last):
    """Whether any value is a state of a book in which not more lights are passed than in the last one."""
    if not is_listed(value) or len(value) != 2 or not all([is_integer(number) for number in value]):
        return False
    return 0 <= value[0] <= last[0] and 0 <= value[1] <= last[1]


def is_right_tree(book, saying, tree, moves, cuts, aim):
    """Whether any value is a right tree below the cuts: moves are those that keep the begun lots and the cuts."""
    if tree is None:
        return settled_parts(saying, cuts)[-1] == aim
    if not is_listed(tree) or len(tree) == 0 or not isinstance(tree[0], str):
        return False
    if tree[0] == "nobody":
        return len(tree) == 2 and are_shut(book, moves, tree[1])
    if tree[0] != "cut" or len(tree) != 5 or not is_fresh(tree[1], saying, cuts):
        return False
    for sign, below in zip((1, 0, -1), tree[2:]):
        kept = moves_by_cut(moves, saying.rows[tree[1]], sign)
        if not is_right_tree(book, saying, below, kept, {**cuts, tree[1]: sign}, aim):
            return False
    return True
