"""Books that do the same in every weaving, and weavings at whose last deed two books part."""

from longstrike.books import want_one_shape
from longstrike.drafts import weaving_of
from longstrike.walks import walk
from longstrike.watches import ColumnWatch, KindWatch


class PairOfWatches:
    """The watches of one column or kind under two books, walked at once."""

    def __init__(self, one, other):
        self.begin = one.begin
        self._one = one
        self._other = other

    def is_fault(self, state, word):
        """Tell whether a state is the fault of this word, which none is here."""
        return False

    def steps(self, state):
        """Return the list of the steps from a state; the fault is a move that leads the two to unlike states."""
        ones = {move: reached for move, reached, wrong in self._one.steps(state)}
        others = {move: reached for move, reached, wrong in self._other.steps(state)}
        found = [(move, ones[move], "" if others.get(move) == ones[move] else "unlike") for move in ones]
        found.extend([(move, others[move], "unlike") for move in others if move not in ones])
        return found


def parting(one, other):
    """Return a weaving at whose last deed two books part, or None if they do the same in every weaving."""
    want_one_shape(one, other)
    for first, second in zip(_watches(one), _watches(other)):
        if first.has != second.has:
            moves, reached = walk(PairOfWatches(first, second), "unlike")
            if moves is not None:
                return weaving_of(one, first, moves)
    return None


def idle(book):
    """Return the list of the checks of a book without which, each alone, it does the same in every weaving."""
    return [check for check in book.checks() if parting(book, book - check) is None]


def _watches(book):
    """Return the list of the watches of all kinds and of all columns.

    The kinds come first: books of which one has "lone" part there, if any row can be marked. So they part at no mark
    that a watch of a column makes in several deeds.
    """
    kinds = [KindWatch(book, name) for name, is_open in book.kinds()]
    return kinds + [ColumnWatch(book, column[0]) for column in book.columns()]
