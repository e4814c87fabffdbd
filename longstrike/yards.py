"""Yards: a store with the weaving that led to it, deeds of which can be taken back."""

from longstrike.books import want_one_shape
from longstrike.errors import BadWeaving, NothingToRedo, NothingToUndo
from longstrike.forms import pairs_of
from longstrike.stores import Store
from longstrike.tables import want_question
from longstrike.weavings import done, played, put_deed, shows


class Yard:
    """A store, at first without rows, and the deeds that were done to it."""

    def __init__(self, book, size=1):
        self._store = Store(book, size)
        self._deeds = []
        # The deeds that were taken back, the last of which is the first to be done again.
        self._undone = []

    def deed(self, deed):
        """Do a deed, and return what the method of the store returns."""
        result = done(self._store, deed)
        self._deeds.append(_as_tuples(self._store.book(), deed))
        self._undone = []
        return result

    def undo(self):
        """Take the last deed back."""
        if not self._deeds:
            raise NothingToUndo()
        # A deed does not tell what it changed, so those ahead of it are done anew.
        self._store = played(self._store.book(), self._deeds[:-1], self._store.size())
        self._undone.append(self._deeds.pop())

    def redo(self):
        """Do the last deed again that was taken back."""
        if not self._undone:
            raise NothingToRedo()
        done(self._store, self._undone[-1])
        self._deeds.append(self._undone.pop())

    def weaving(self):
        """Return the list of the deeds so far, as tuples throughout."""
        return list(self._deeds)

    def store(self):
        """Return a copy of the store."""
        return self._store.copy()

    def book(self):
        """Return the book of the store."""
        return self._store.book()

    def since(self, question):
        """Return the number of deeds behind which the fault of a question shows for the first time, or None."""
        want_question(self._store.book(), question)
        store = Store(self._store.book(), self._store.size())
        for index, deed in enumerate(self._deeds):
            done(store, deed)
            if shows(store, question):
                return index + 1
        return None

    def under(self, book):
        """Return the index of the first deed that a store under another book of the shape refuses, or None."""
        want_one_shape(self._store.book(), book)
        try:
            played(book, self._deeds, self._store.size())
        except BadWeaving as refusal:
            return refusal.index
        return None

    def rebooked(self, book):
        """Return a yard under another book of the shape, with the deeds ahead of the first that it refuses."""
        refused = self.under(book)
        twin = Yard(book, self._store.size())
        # If none is refused, the end of the slice is None, and all deeds are in it.
        twin._deeds = self._deeds[:refused]
        twin._store = played(book, twin._deeds, self._store.size())
        return twin

    def trial(self, work):
        """Call a function with the yard, return what it returns, and leave the yard as it was ahead of the call."""
        store = self._store
        deeds = self._deeds
        undone = self._undone
        self._store = store.copy()
        self._deeds = list(deeds)
        self._undone = list(undone)
        try:
            return work(self)
        finally:
            self._store = store
            self._deeds = deeds
            self._undone = undone

    def copy(self):
        """Return an independent copy, with what can be done again."""
        twin = Yard(self._store.book(), self._store.size())
        twin._store = self._store.copy()
        twin._deeds = list(self._deeds)
        twin._undone = list(self._undone)
        return twin

    def __iadd__(self, deed):
        self.deed(deed)
        return self

    def __len__(self):
        return len(self._deeds)

    def __eq__(self, other):
        if not isinstance(other, Yard) or self._deeds != other._deeds:
            return False
        return self._store.book() == other._store.book() and self._store.size() == other._store.size()


def _as_tuples(book, deed):
    """Return a deed that a store of the book did as tuples throughout, the owners in the order of the columns."""
    if deed[0] == "put":
        return put_deed(book, deed[1], deed[2], dict(pairs_of(deed[3])))
    if deed[0] == "look":
        return (*deed[:3], tuple(deed[3]))
    return tuple(deed)
