"""Whether papers of chains and crowds are right."""

from whosefirst.books import ask_book
from whosefirst.chains import LongChain, Messengers
from whosefirst.checks import first_twice, is_listed
from whosefirst.telling import are_all_apart, does_reach


def shows_messengers(book, value):
    """Whether any value is a Messengers that is right: chains that share out all names, a crowd of as many."""
    ask_book(book)
    if type(value) is not Messengers or not shares_out(book, value.chains):
        return False
    if not all([is_chain(book, chain) for chain in value.chains]):
        return False
    return is_crowd(book, value.crowd) and len(value.crowd) == len(value.chains)


def shows_longest(book, value):
    """Whether any value is a LongChain that is right: a chain, as many crowds that share out all names."""
    ask_book(book)
    if type(value) is not LongChain or not shares_out(book, value.crowds):
        return False
    if not all([is_crowd(book, crowd) for crowd in value.crowds]):
        return False
    return is_chain(book, value.chain) and len(value.chain) == len(value.crowds)


def shares_out(book, lists):
    """Whether any value is a list of lists of one or more names, each name of the book in just one, just once."""
    if not is_listed(lists) or not all([is_listed(names) and len(names) > 0 for names in lists]):
        return False
    names = [name for part in lists for name in part]
    return are_unlike(book, names) and len(names) == len(book)


def are_unlike(book, names):
    """Whether any value is a list of unlike names of the book."""
    if not is_listed(names) or not all([name in book for name in names]):
        return False
    return first_twice(names) is None


def is_chain(book, names):
    """Whether any value is a list of unlike names of the book, each of which reaches the next one."""
    if not are_unlike(book, names):
        return False
    return all([does_reach(book, one, other) for one, other in zip(names, names[1:])])


def is_crowd(book, names):
    """Whether any value is a list of unlike names of the book, each two of them apart."""
    return are_unlike(book, names) and are_all_apart(book, names)
