"""Whether papers about passers are right."""

from whosefirst.callers import keeps_rows
from whosefirst.check_callers import are_nobodys
from whosefirst.checks import is_listed, is_within
from whosefirst.paces import Pace
from whosefirst.passers import Passers, ask_accounts


def shows_passers(book, accounts, value):
    """Whether any value is a Passers that is right: no fewer paces can keep the rows of all accounts."""
    ask_accounts(book, accounts)
    if type(value) is not Passers or not are_paces_of_road(value.paces):
        return False
    if not are_keepers(book, accounts, value.paces, value.who):
        return False
    return are_apart(book, accounts, len(value.paces), value.apart)


def are_paces_of_road(paces):
    """Whether any value is a list of Paces of a road."""
    return is_listed(paces) and all([isinstance(pace, Pace) and pace.axes == 1 for pace in paces])


def are_keepers(book, accounts, paces, who):
    """Whether any value tells for each account the number of a pace that keeps its rows, each pace at least once."""
    if not is_listed(who) or len(who) != len(accounts):
        return False
    if not all([is_within(number, 0, len(paces) - 1) for number in who]):
        return False
    if not all([number in who for number in range(len(paces))]):
        return False
    return all([keeps_rows(book, paces[number], rows) for number, rows in zip(who, accounts)])


def are_apart(book, accounts, many, triples):
    """Whether any value is a list of triples, right ones, for each two of so many accounts."""
    if not is_listed(triples) or not all([is_apart(book, accounts, triple) for triple in triples]):
        return False
    if many < 2:
        return len(triples) == 0
    pairs = sorted(set([(one, other) for one, other, _ in triples]))
    numbers = sorted(set([number for pair in pairs for number in pair]))
    # So many unlike pairs of so many numbers are all of them.
    return len(numbers) == many and len(pairs) == len(triples) == many * (many - 1) // 2


def is_apart(book, accounts, triple):
    """Whether any value is two numbers of accounts, ascending, and nobody's weights for the rows of both."""
    if not is_listed(triple) or len(triple) != 3:
        return False
    one, other, weights = triple
    if not is_within(one, 0, len(accounts) - 1) or not is_within(other, one + 1, len(accounts) - 1):
        return False
    return are_nobodys(book, [*accounts[one], *accounts[other]], weights)
