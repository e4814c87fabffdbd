"""Watches: one row x, its owner y, a stranger's row z and two lists, as a book lets them go from state to state.

A state is a tuple of strings. A step is a triple (move, state, wrong): what was done, the state that comes of it, and
the word of the fault that the step is, or "". A move is a tuple of words: ("put", row, owner), ("turn", "x", owner),
("mark", row), ("look", letter), ("do", letter) or ("stop", letter).
"""

from longstrike.books import BOOK_CHECKS, COLUMN_CHECKS, KIND_CHECKS
from longstrike.forms import is_row, is_word_of

# Each in ascending order, as are the states that are made of them.
X_WORDS = ("gone", "marked", "new", "other", "plain")
OWNERS = ("-", "y", "z")
Y_WORDS = ("gone", "marked", "new", "plain")
Z_WORDS = ("new", "plain")
THERE = ("marked", "other", "plain")
FALLEN = ("gone", "marked")


class ColumnWatch:
    """The watch of a column: x refers by it to y, to z, which is never marked, or to nothing."""

    def __init__(self, book, column):
        home, goal, rule = [found[1:] for found in book.columns() if found[0] == column][0]
        markable = book.markable()
        is_open = dict(book.kinds())
        self.begin = ("new", "-", "new", "new", "")
        self.column = column
        self.kinds_of_rows = {"x": home, "y": goal, "z": goal}
        self.has = _checks_at(book, column, home, goal)
        self._piece = "S" if rule == "fall" else "C"
        self._is_home_open = is_open[home]
        self._is_goal_open = is_open[goal]
        self._is_goal_markable = goal in markable
        self._has_other_way = any([
            name != column and kind == home and word == "fall" and owner in markable
            for name, kind, owner, word in book.columns()
        ])
        self._parts = (X_WORDS, OWNERS, Y_WORDS, Z_WORDS, _lists_of((self._piece, "X", "Y")))

    def states(self):
        """Return the ascending list of all states, whether steps lead to them or not."""
        x_words, owners, y_words, z_words, all_lists = self._parts
        return [
            (x, owner, y, z, lists)
            for x in x_words for owner in owners for y in y_words for z in z_words for lists in all_lists
        ]

    def is_state(self, thing):
        """Tell whether any object is a state."""
        return _is_made_of(thing, self._parts)

    def is_fault(self, state, word):
        """Tell whether a state is the fault of this word."""
        x, owner, y, z, lists = state
        if owner != "y" or y != "gone":
            return False
        return word == "loose" and x == "plain" or word == "half" and x in THERE

    def steps(self, state):
        """Return the list of the steps from a state."""
        found = [*self._puts(state), *self._turns(state), *self._new_marks(state), *self._new_lists(state)]
        x, owner, y, z, lists = state
        for letter, others in _letters_taken(lists):
            new_x, new_owner, new_y, wrong = self._done(letter, x, owner, y)
            found.append((("do", letter), (new_x, new_owner, new_y, z, others), wrong))
            found.append((("stop", letter), (x, owner, y, z, others), ""))
        return found

    def _puts(self, state):
        x, owner, y, z, lists = state
        found = []
        if self._can_put(x):
            owners = _owners_that_come(y, z, self.has["put"])
            found.extend([(("put", "x", new), ("plain", new, y, z, lists), "") for new in owners])
        if self._can_put(y):
            found.append((("put", "y", "-"), (x, owner, "plain", z, lists), ""))
        if z == "new":
            found.append((("put", "z", "-"), (x, owner, y, "plain", lists), ""))
        return found

    def _can_put(self, row):
        return row == "new" or row == "gone" and not self.has["fresh"]

    def _turns(self, state):
        x, owner, y, z, lists = state
        if x not in THERE or self.has["hold"] and x != "plain":
            return []
        if self.has["keep"] and owner == "y" and y in FALLEN:
            return []
        owners = _owners_that_come(y, z, self.has["turn"])
        return [(("turn", "x", new), (x, new, y, z, lists), "") for new in owners]

    def _new_marks(self, state):
        x, owner, y, z, lists = state
        # A mark that comes by a fall column needs a look of its own.
        is_free = lists == "" or not self.has["lone"]
        found = []
        if y == "plain" and self._is_goal_markable and (is_free or self._is_goal_open):
            found.append((("mark", "y"), (x, owner, "marked", z, lists), ""))
        is_struck = self._is_home_open and x in ("plain", "marked")
        if is_struck or x == "plain" and self._has_other_way and is_free:
            found.append((("mark", "x"), ("other", owner, y, z, lists), ""))
        return found

    def _new_lists(self, state):
        x, owner, y, z, lists = state
        if not _has_room(lists, self.has["lone"]):
            return []
        found = []
        if _is_due(owner, y) and (x == "plain" or self._piece == "C" and x in THERE):
            found.append(self._piece)
        if x in ("marked", "other"):
            found.append("X")
        if self._is_felled(x, owner, y):
            found.append("Y")
        return [(("look", letter), (x, owner, y, z, _with_letter(lists, letter)), "") for letter in found]

    def _is_felled(self, x, owner, y):
        """Tell whether y fits for being felled."""
        if y != "marked":
            return False
        if owner != "y":
            return True
        return not (self.has["bare goal"] and x in THERE or self.has["calm goal"] and x == "plain")

    def _done(self, letter, x, owner, y):
        """Return x, its owner and y behind a do, and the word of the fault that the do is, or ""."""
        is_piece_done = not self.has["again"] or _is_due(owner, y)
        if letter == "S" and x == "plain" and is_piece_done:
            return ("marked", owner, y, "")
        if letter == "C" and x in THERE and owner != "-" and is_piece_done:
            is_spoilt = owner == "z" or y == "plain"
            return (x, "-", y, "spoilt" if is_spoilt else "")
        if letter == "X" and x in THERE and not (self.has["again home"] and x == "plain"):
            is_unjust = x == "marked" and not (owner == "y" and y in FALLEN)
            return ("gone", "-", y, "unjust" if is_unjust else "")
        if letter == "Y" and y in ("plain", "marked") and (not self.has["again goal"] or self._is_felled(x, owner, y)):
            return (x, owner, "gone", "")
        return (x, owner, y, "")


class KindWatch:
    """The watch of a kind: one row x of it, to which nothing refers."""

    def __init__(self, book, kind):
        self.begin = ("new", "")
        self.column = None
        self.kinds_of_rows = {"x": kind}
        self.has = {"again": ("again " + kind) in book, "lone": "lone" in book, "fresh": "fresh" in book}
        self._is_open = dict(book.kinds())[kind]
        self._is_markable = kind in book.markable()
        self._parts = (Y_WORDS, _lists_of(("X",)))

    def states(self):
        """Return the ascending list of all states, whether steps lead to them or not."""
        x_words, all_lists = self._parts
        return [(x, lists) for x in x_words for lists in all_lists]

    def is_state(self, thing):
        """Tell whether any object is a state."""
        return _is_made_of(thing, self._parts)

    def is_fault(self, state, word):
        """Tell whether a state is the fault of this word, which none is here."""
        return False

    def steps(self, state):
        """Return the list of the steps from a state."""
        x, lists = state
        found = []
        if x == "new" or x == "gone" and not self.has["fresh"]:
            found.append((("put", "x", "-"), ("plain", lists), ""))
        is_free = lists == "" or not self.has["lone"] or self._is_open
        if x == "plain" and self._is_markable and is_free:
            found.append((("mark", "x"), ("marked", lists), ""))
        if x == "marked" and _has_room(lists, self.has["lone"]):
            found.append((("look", "X"), (x, _with_letter(lists, "X")), ""))
        for letter, others in _letters_taken(lists):
            is_felled = x == "marked" or x == "plain" and not self.has["again"]
            wrong = "undue" if is_felled and x == "plain" else ""
            found.append((("do", letter), ("gone" if is_felled else x, others), wrong))
            found.append((("stop", letter), (x, others), ""))
        return found


def watch_of(book, question):
    """Return the watch in which the fault of a question comes, if it is not "stuck"."""
    word, name = question.split(" ")
    return KindWatch(book, name) if word == "undue" else ColumnWatch(book, name)


def _checks_at(book, column, home, goal):
    """Return the dict that tells which of the checks that bear on the watch of a column the book has."""
    has = {word: (word + " " + column) in book for word in COLUMN_CHECKS}
    for word in KIND_CHECKS:
        has[word + " goal"] = (word + " " + goal) in book
    has["again home"] = ("again " + home) in book
    for word in BOOK_CHECKS:
        has[word] = word in book
    return has


def _lists_of(letters):
    """Return the ascending tuple of the texts of at most two of these letters, in ascending order."""
    found = [""]
    for at, letter in enumerate(letters):
        found.append(letter)
        found.extend([letter + other for other in letters[at:]])
    return tuple(found)


def _is_made_of(thing, parts):
    if not is_row(thing) or len(thing) != len(parts):
        return False
    return all([is_word_of(part, words) for part, words in zip(thing, parts)])


def _owners_that_come(y, z, is_checked):
    """Return the list of the owners that a put or a turn can give, with or without the check of the column."""
    found = ["-"]
    if y == "plain" or y == "marked" and not is_checked:
        found.append("y")
    if z == "plain":
        found.append("z")
    return found


def _is_due(owner, y):
    return owner == "y" and y == "marked"


def _has_room(lists, is_lone):
    return lists == "" or len(lists) == 1 and not is_lone


def _with_letter(lists, letter):
    return lists + letter if lists <= letter else letter + lists


def _letters_taken(lists):
    """Return the list of the pairs of a letter, each once, and the lists without it."""
    return [(letter, lists[:at] + lists[at + 1:]) for at, letter in enumerate(lists) if letter not in lists[:at]]
