"""Tables of the states of a watch, ranks of kinds, and papers that show that a fault never comes."""

from longstrike.errors import BadQuestion
from longstrike.forms import is_number, is_row, is_word_of
from longstrike.walks import walk
from longstrike.watches import watch_of


def table(book, question):
    """Return the ascending list of the states to which steps lead in the watch of a question."""
    want_question(book, question)
    if question == "stuck":
        raise BadQuestion(question)
    watch = watch_of(book, question)
    moves, reached = walk(watch, None)
    return [state for state in watch.states() if state in reached]


def ranks(book):
    """Return the list of the pairs (kind, rank) of all tight kinds, or None if some have no rank."""
    columns = tight_columns(book)
    found = {kind: 0 for kind in tight_kinds(book)}
    # A way through unlike kinds has fewer columns than there are kinds: what grows further goes in a ring.
    for _ in book.kinds():
        for name, home, goal, rule in columns:
            if found[home] <= found[goal]:
                found[home] = found[goal] + 1
    if any([found[home] <= found[goal] for name, home, goal, rule in columns]):
        return None
    return list(found.items())


def is_paper(book, question, paper):
    """Tell of any object whether it shows that the fault of a question never comes."""
    want_question(book, question)
    if not is_row(paper):
        return False
    if question == "stuck":
        return _is_paper_of_ranks(book, paper)
    return _is_closed(watch_of(book, question), question.split(" ")[0], paper)


def want_question(book, question):
    """Raise an error for any object that is no question of the book."""
    if not is_word_of(question, book.questions()):
        raise BadQuestion(question)


def tight_kinds(book):
    """Return the list of the kinds of which a marked row waits until no row refers to it."""
    return [kind for kind in book.markable() if ("bare " + kind) in book]


def tight_columns(book):
    """Return the list of the fall columns whose home and goal are tight."""
    kinds = tight_kinds(book)
    return [column for column in book.columns() if column[3] == "fall" and column[1] in kinds and column[2] in kinds]


def _is_paper_of_ranks(book, paper):
    kinds = [name for name, is_open in book.kinds()]
    numbers = {}
    for pair in paper:
        if not is_row(pair) or len(pair) != 2 or not is_word_of(pair[0], kinds) or not is_number(pair[1]):
            return False
        if pair[0] in numbers:
            return False
        numbers[pair[0]] = pair[1]
    if not all([kind in numbers for kind in tight_kinds(book)]):
        return False
    return all([numbers[home] > numbers[goal] for name, home, goal, rule in tight_columns(book)])


def _is_closed(watch, word, paper):
    """Tell whether a list holds states alone, with the begin and all to which they lead, and no fault."""
    if not all([watch.is_state(thing) for thing in paper]):
        return False
    states = {tuple(state): True for state in paper}
    if watch.begin not in states:
        return False
    for state in states:
        if watch.is_fault(state, word):
            return False
        for move, reached, wrong in watch.steps(state):
            if wrong == word or reached not in states:
                return False
    return True
