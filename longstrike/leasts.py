"""Least sets of checks that keep faults away."""

from itertools import combinations

from longstrike.books import Book
from longstrike.errors import UnknownCheck
from longstrike.forms import is_word_of
from longstrike.tables import ranks, want_question
from longstrike.walks import walk
from longstrike.watches import watch_of


def least(book, questions, free):
    """Return the list of the least sets of free checks with which none of the faults comes."""
    for question in questions:
        want_question(book, question)
    menu = book.menu()
    for check in free:
        if not is_word_of(check, menu):
            raise UnknownCheck(check)
    # A set with a check that the book has is never a least one.
    names = [check for check in menu if check in free and check not in book]
    told = {}
    found = []
    for size in range(len(names) + 1):
        for chosen in combinations(names, size):
            if not any([_has_all(chosen, lesser) for lesser in found]):
                more = Book(book.kinds(), book.columns(), [*book.checks(), *chosen])
                if not _one_comes(more, questions, told):
                    found.append(list(chosen))
    return found


def _has_all(checks, lesser):
    return all([check in checks for check in lesser])


def _one_comes(book, questions, told):
    for question in questions:
        if _comes(book, question, told):
            return True
    return False


def _comes(book, question, told):
    """Tell whether a fault ever comes; the dict keeps what was told of watches with the same checks."""
    if question == "stuck":
        return ranks(book) is None
    watch = watch_of(book, question)
    key = (question, tuple(watch.has.values()))
    if key not in told:
        moves, reached = walk(watch, question.split(" ")[0])
        told[key] = moves is not None
    return told[key]
