"""Papers: answers together with what shows them."""


class Paper:
    """An answer with a word and parts; it is true."""

    def __init__(self, word, *parts):
        self.word = word
        self.parts = fixed(parts)

    def __bool__(self):
        return True

    def __eq__(self, other):
        return are_equal_papers(self, other)


class Denial(Paper):
    """A paper that says no; it is false."""

    def __bool__(self):
        return False

    def __eq__(self, other):
        return are_equal_papers(self, other)


def are_equal_papers(one, other):
    """Whether a paper and any value are of one class, with equal words and parts."""
    if type(one) is not type(other):
        return False
    return one.word == other.word and one.parts == other.parts


def fixed(value):
    """Any value with tuples in the place of lists, and of dicts the ascending tuple of their pairs, all the way in."""
    if isinstance(value, (list, tuple)):
        return tuple([fixed(part) for part in value])
    if isinstance(value, dict) and are_of_one_kind(list(value)):
        return tuple([(key, fixed(value[key])) for key in sorted(list(value))])
    return value


def are_of_one_kind(keys):
    """Whether keys can be sorted: one alone, or numbers, strings, bytes or tuples in which such meet such."""
    if len(keys) < 2 or all([isinstance(key, int) for key in keys]):
        return True
    if all([isinstance(key, str) for key in keys]) or all([isinstance(key, bytes) for key in keys]):
        return True
    if not all([isinstance(key, tuple) for key in keys]):
        return False
    return all([are_ordered(keys[k], keys[n]) for n in range(len(keys)) for k in range(n)])


def are_ordered(one, other):
    """Whether two tuples can be sorted: that is shown where they first differ."""
    unlike = [k for k in range(min(len(one), len(other))) if one[k] != other[k]]
    return len(unlike) == 0 or are_of_one_kind([one[unlike[0]], other[unlike[0]]])
