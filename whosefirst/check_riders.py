"""Whether papers about words of sayings about riders are right."""

from whosefirst.checks import is_listed, is_within
from whosefirst.forms import added_forms
from whosefirst.ratios import Ratio, are_ratios
from whosefirst.rider_forms import FORM_SIZE, form_of_row
from whosefirst.rider_rows import rider_worth
from whosefirst.rider_words import ask_rider_word, first_way, rider_truth
from whosefirst.riders import Rider
from whosefirst.rows import is_kept
from whosefirst.settling import settled_parts
from whosefirst.words import Always, Never, Open


def shows_rider_word(book, saying, given, value):
    """Whether any value is an Always or a Never with a right tree, or an Open with two riders that show it."""
    ask_rider_word(book, saying, given)
    if type(value) is Always:
        return Check(book, saying, given, True).is_right(value.tree, first_way(book, given))
    if type(value) is Never:
        return Check(book, saying, given, False).is_right(value.tree, first_way(book, given))
    if type(value) is not Open:
        return False
    if not is_rider_for(book, value.one, given) or not is_rider_for(book, value.other, given):
        return False
    return rider_truth(book, saying, value.one) and not rider_truth(book, saying, value.other)


def is_rider_for(book, value, rows):
    """Whether any value is a Rider that keeps all rows."""
    if not isinstance(value, Rider):
        return False
    return all([is_kept(row.kind, rider_worth(book, value, row).sign) for row in rows])


class Check:
    """What a tree is looked at by: the book, the saying, the given rows and the aim."""

    def __init__(self, book, saying, given, aim):
        self.book = book
        self.saying = saying
        self.given = given
        self.aim = aim

    def is_right(self, tree, way):
        """Whether any value is a right tree below a way."""
        if tree is None:
            return settled_parts(self.saying, way.cuts)[-1] == self.aim
        if not is_listed(tree) or len(tree) == 0 or not isinstance(tree[0], str):
            return False
        if tree[0] == "nobody":
            return len(tree) == 2 and self.are_nobodys(tree[1], way)
        if tree[0] == "side":
            return len(tree) == 4 and self.is_right_side(tree, way)
        return tree[0] == "cut" and len(tree) == 5 and self.is_right_cut(tree, way)

    def is_right_side(self, tree, way):
        """Whether a tree that tells a side is right."""
        _, name, left, right = tree
        if name not in self.book or name in way.sides:
            return False
        if not self.is_right(left, way.with_side(self.book, self.given, name, "left")):
            return False
        return self.is_right(right, way.with_side(self.book, self.given, name, "right"))

    def is_right_cut(self, tree, way):
        """Whether a tree that cuts a row is right."""
        number = tree[1]
        if not is_within(number, 0, len(self.saying.rows) - 1) or number in way.cuts:
            return False
        form = form_of_row(self.book, self.saying.rows[number], way.sides)
        if form is None:
            return False
        for sign, below in zip((1, 0, -1), tree[2:]):
            if not self.is_right(below, way.with_cut(number, sign, form)):
                return False
        return True

    def are_nobodys(self, weights, way):
        """Whether any value is a list of nobody's weights for the given rows and what is told on a way."""
        told = way.given + way.told
        if not are_ratios(weights) or len(weights) != len(told):
            return False
        kinds = [row.kind for row in self.given] + [one.kind for one in way.told]
        forms = [None if one is None else one.form for one in told]
        signs = [Ratio.of(weight).sign for weight in weights]
        for form, kind, sign in zip(forms, kinds, signs):
            if (sign < 0 and kind != "=") or (sign != 0 and form is None):
                return False
        clear = [number for number, form in enumerate(forms) if form is not None]
        total = added_forms([forms[number] for number in clear], [weights[number] for number in clear], FORM_SIZE)
        is_late = any([sign > 0 and kind == ">" for sign, kind in zip(signs, kinds)])
        if total[1].sign != 0 or total[0].sign > 0 or total[2].sign > 0:
            return False
        return is_late or total[0].sign < 0 or total[2].sign < 0
