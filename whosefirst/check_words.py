"""Whether papers about words of sayings about calling are right."""

from whosefirst.check_callers import are_nobodys, is_keeper
from whosefirst.checks import is_listed, is_within
from whosefirst.rows import Row
from whosefirst.settling import settled_parts
from whosefirst.words import Always, Never, Open, ask_word, truth_at


def shows_word(book, saying, given, value):
    """Whether any value is an Always or a Never with a right tree, or an Open with two paces that show it."""
    ask_word(book, saying, given)
    if type(value) is Always:
        return is_right_tree(book, saying, value.tree, given, {}, True)
    if type(value) is Never:
        return is_right_tree(book, saying, value.tree, given, {}, False)
    if type(value) is not Open:
        return False
    if not is_keeper(book, value.one, given) or not is_keeper(book, value.other, given):
        return False
    return truth_at(book, saying, value.one) and not truth_at(book, saying, value.other)


def is_right_tree(book, saying, tree, rows, cuts, aim):
    """Whether any value is a right tree below the cuts: rows are the given ones and, behind them, those of the cuts."""
    if tree is None:
        return settled_parts(saying, cuts)[-1] == aim
    if not is_listed(tree) or len(tree) == 0 or not isinstance(tree[0], str):
        return False
    if tree[0] == "nobody":
        return len(tree) == 2 and are_nobodys(book, rows, tree[1])
    if tree[0] != "cut" or len(tree) != 5 or not is_fresh(tree[1], saying, cuts):
        return False
    span = saying.rows[tree[1]].span
    for sign, row, below in zip((1, 0, -1), (Row(span, ">"), Row(span, "="), Row(-span, ">")), tree[2:]):
        if not is_right_tree(book, saying, below, [*rows, row], {**cuts, tree[1]: sign}, aim):
            return False
    return True


def is_fresh(number, saying, cuts):
    """Whether any value is the number of a row of a saying that is not cut."""
    return is_within(number, 0, len(saying.rows) - 1) and number not in cuts
