"""All errors of the package: each keeps the fields that it is called with."""


class FirstError(ValueError):
    """Above all errors of the package."""


class BadRatio(FirstError):
    """No ratio, or a bottom of 0."""

    def __init__(self, part):
        self.part = part


class BadStep(FirstError):
    """No step, or a part that makes none."""

    def __init__(self, part):
        self.part = part


class BadSpan(FirstError):
    """No span, or a part that makes none."""

    def __init__(self, part):
        self.part = part


class BadBook(FirstError):
    """No book, or a part that makes none."""

    def __init__(self, part):
        self.part = part


class BadPace(FirstError):
    """No pace, or parts that make none."""

    def __init__(self, part):
        self.part = part


class BadRow(FirstError):
    """No row, or a part that makes none."""

    def __init__(self, part):
        self.part = part


class BadSaying(FirstError):
    """No saying, or a part that makes none."""

    def __init__(self, part):
        self.part = part


class BadOrder(FirstError):
    """No order, or no list of names."""

    def __init__(self, part):
        self.part = part


class BadRider(FirstError):
    """No rider."""

    def __init__(self, part):
        self.part = part


class BadStory(FirstError):
    """No story, or a part that makes none."""

    def __init__(self, part):
        self.part = part


class BadTable(FirstError):
    """No table, or a part that makes none."""

    def __init__(self, part):
        self.part = part


class BadEye(FirstError):
    """No eye, or corners that make none."""

    def __init__(self, part):
        self.part = part


class BadWeave(FirstError):
    """No weave, or moves that make none."""

    def __init__(self, part):
        self.part = part


class BadReport(FirstError):
    """No list of accounts."""

    def __init__(self, part):
        self.part = part


class BadTour(FirstError):
    """No tour, or parts that make none."""

    def __init__(self, part):
        self.part = part


class BadNumber(FirstError):
    """No number as it is asked for."""

    def __init__(self, part):
        self.part = part


class BadPaper(FirstError):
    """No paper as it is asked for."""

    def __init__(self, part):
        self.part = part


class BadDesk(FirstError):
    """No desk."""

    def __init__(self, part):
        self.part = part


class Missing(FirstError):
    """What has this name is not there."""

    def __init__(self, name):
        self.name = name


class NoHappening(Missing):
    """No happening has this name."""


class NoTraveller(Missing):
    """No traveller has this name."""


class Twice(FirstError):
    """This name stood ahead already."""

    def __init__(self, name):
        self.name = name


class Unlike(FirstError):
    """What is passed does not fit together."""

    def __init__(self, what):
        self.what = what


class SameSpot(FirstError):
    """Two happenings have one time and place."""

    def __init__(self, one, other):
        self.one = one
        self.other = other


class Impossible(FirstError):
    """What is asked cannot be, as the paper shows."""

    def __init__(self, paper):
        self.paper = paper


class TooMany(FirstError):
    """More are passed than may be."""

    def __init__(self, what, most):
        self.what = what
        self.most = most


class Nothing(FirstError):
    """Nothing is left to take back."""


class BadText(FirstError):
    """A text in which this word cannot stand, or is missing."""

    def __init__(self, line, word):
        self.line = line
        self.word = word


class BadLine(FirstError):
    """A line that raised this error."""

    def __init__(self, line, error):
        self.line = line
        self.error = error
