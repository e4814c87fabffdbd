"""Weavings: deeds that are done to a store, and the faults that a store shows."""

from longstrike.errors import BadDeed, BadQuestion, BadWeaving, StrikeError
from longstrike.forms import is_list_of_owners, is_row, is_word_of
from longstrike.stores import Store

# How many items a deed has, by its word.
LENGTHS = {"put": 4, "turn": 5, "strike": 3, "look": 4, "do": 2, "stop": 2}


def shows(store, question):
    """Tell whether a store shows the fault of a question."""
    if not is_word_of(question, store.book().questions()):
        raise BadQuestion(question)
    if question == "stuck":
        return store.is_stuck()
    word, name = question.split(" ")
    if word == "loose":
        return len(store.loose(name)) > 0
    if word == "half":
        return len(store.half(name)) > 0
    return any([wrong[0] == word and wrong[1] == name for wrong in store.wrongs()])


def done(store, deed):
    """Do a deed, and return what the method of the store returns."""
    if not is_deed(deed):
        raise BadDeed()
    word = deed[0]
    if word == "put":
        return store.put(deed[1], deed[2], deed[3])
    if word == "turn":
        return store.turn(deed[1], deed[2], deed[3], deed[4])
    if word == "strike":
        return store.strike(deed[1], deed[2])
    if word == "look":
        return store.look(deed[1], deed[2], deed[3])
    if word == "do":
        return store.do(deed[1])
    return store.stop(deed[1])


def played(book, weaving, size=1):
    """Return the store that a weaving makes of an empty one."""
    store = Store(book, size)
    if not is_row(weaving):
        raise BadWeaving(0)
    for index, deed in enumerate(weaving):
        try:
            done(store, deed)
        except StrikeError as error:
            raise BadWeaving(index) from error
    return store


def is_deed(deed):
    """Tell whether any object has the form of a deed."""
    if not is_row(deed) or len(deed) == 0 or not isinstance(deed[0], str):
        return False
    if LENGTHS.get(deed[0]) != len(deed):
        return False
    return deed[0] != "put" or is_list_of_owners(deed[3])


def put_deed(book, kind, number, owners):
    """Return the deed that puts a row; of the owners, a dict, come those by the columns of the kind, in their order."""
    names = [name for name in book.columns_of(kind) if name in owners]
    return ("put", kind, number, tuple([(name, owners[name]) for name in names]))
