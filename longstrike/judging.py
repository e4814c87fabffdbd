"""Judgements: whether a fault can ever come, with what shows it."""

from longstrike.drafts import weaving_of
from longstrike.rings import ring_weaving
from longstrike.tables import ranks, table, want_question
from longstrike.walks import walk
from longstrike.watches import watch_of


def judge(book, question):
    """Return ("never", paper) if the fault of a question never comes, else ("once", weaving)."""
    want_question(book, question)
    if question == "stuck":
        return _judged_stuck(book)
    watch = watch_of(book, question)
    moves, reached = walk(watch, question.split(" ")[0])
    if moves is None:
        return ("never", table(book, question))
    return ("once", weaving_of(book, watch, moves))


def _judged_stuck(book):
    paper = ranks(book)
    if paper is None:
        return ("once", ring_weaving(book))
    return ("never", paper)
