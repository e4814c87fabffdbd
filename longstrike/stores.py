"""Stores: the rows of a book, the lists of the hands, and what went wrong."""

from longstrike.errors import BadList, BadNumber, BadPiece, Busy, Idle, NoFit, NoRow, NotOpen, OwnOwner
from longstrike.errors import Refused, Taken, UnknownColumn, UnknownKind, Used
from longstrike.forms import STRIKE, is_list_of_numbers, is_number, is_word_of, pairs_of


class Store:
    """A store of rows under a book of rules."""

    def __init__(self, book, size=1):
        if not is_number(size) or size < 1:
            raise BadNumber(size)
        kinds = [name for name, is_open in book.kinds()]
        self._book = book
        self._size = size
        # A row is there if its number is among the keys of both dicts of its kind.
        self._owners = {kind: {} for kind in kinds}
        self._marks = {kind: {} for kind in kinds}
        self._used = {kind: {} for kind in kinds}
        self._lists = {}
        self._wrongs = []
        self._columns = {name: (home, goal, rule) for name, home, goal, rule in book.columns()}
        self._pieces = _pieces_of(book)

    def put(self, kind, number, owners=()):
        """Put a row without a mark."""
        self._want_kind(kind)
        if not is_number(number):
            raise BadNumber(number)
        if number in self._marks[kind]:
            raise Taken(kind, number)
        if "fresh" in self._book and number in self._used[kind]:
            raise Used(kind, number)
        columns = self._book.columns_of(kind)
        given = _owners_given(columns, owners)
        for column in columns:
            self._want_new_owner(column, given.get(column))
        self._owners[kind][number] = {column: given.get(column) for column in columns}
        self._marks[kind][number] = None
        self._used[kind][number] = True

    def turn(self, kind, number, column, owner):
        """Give a row an owner by a column, or None."""
        self._want_row(kind, number)
        self._want_column(kind, column)
        goal = self._columns[column][1]
        if owner is not None:
            self._want_row(goal, owner)
            if goal == kind and owner == number:
                raise OwnOwner(column)
        if self._is_marked(kind, number):
            self._refuse("hold " + column)
        if self._is_fallen(goal, self._owners[kind][number][column]):
            self._refuse("keep " + column)
        if self._is_marked(goal, owner):
            self._refuse("turn " + column)
        self._owners[kind][number][column] = owner

    def strike(self, kind, number):
        """Give a row of an open kind the mark of a struck one."""
        self._want_row(kind, number)
        if not dict(self._book.kinds())[kind]:
            raise NotOpen(kind)
        self._marks[kind][number] = STRIKE

    def pieces(self):
        """Return the list of the pieces of the book."""
        return list(self._pieces)

    def fits(self, piece):
        """Return the ascending list of the numbers of the rows that fit for a piece."""
        self._want_piece(piece)
        return self._fitting(piece, self._numbers(self._kind_of(piece)))

    def look(self, hand, piece, numbers):
        """Write down for a hand the rows for which it is going to do a piece."""
        if not is_number(hand):
            raise BadNumber(hand)
        if hand in self._lists:
            raise Busy(hand)
        if self._lists:
            self._refuse("lone")
        self._want_piece(piece)
        if not is_list_of_numbers(numbers, self._size):
            raise BadList(numbers)
        fitting = {number: True for number in self._fitting(piece, numbers)}
        for number in numbers:
            if number not in fitting:
                raise NoFit(number)
        self._lists[hand] = (piece, tuple(numbers))

    def do(self, hand):
        """Do the piece for the list of a hand, and return the list of the numbers of the changed rows."""
        self._want_list(hand)
        piece, listed = self._lists[hand]
        word, name = self._pieces[piece]
        kind = self._kind_of(piece)
        numbers = [number for number in listed if number in self._marks[kind]]
        if ("again " + name) in self._book:
            numbers = self._fitting(piece, numbers)
        del self._lists[hand]
        if word == "spread":
            return self._spread(name, numbers)
        if word == "clear":
            return self._clear(name, numbers)
        return self._fell(name, numbers)

    def stop(self, hand):
        """Drop the list of a hand."""
        self._want_list(hand)
        del self._lists[hand]

    def rows(self, kind):
        """Return the list of the triples (number, owners, mark) of all rows of a kind."""
        self._want_kind(kind)
        owners = self._owners[kind]
        marks = self._marks[kind]
        return [(number, dict(owners[number]), marks[number]) for number in self._numbers(kind)]

    def owner(self, kind, number, column):
        """Return the owner of a row by a column, or None."""
        self._want_row(kind, number)
        self._want_column(kind, column)
        return self._owners[kind][number][column]

    def mark(self, kind, number):
        """Return the mark of a row, or None."""
        self._want_row(kind, number)
        return self._marks[kind][number]

    def lists(self):
        """Return the dict from the hands that have a list to pairs (piece, numbers)."""
        return dict(self._lists)

    def book(self):
        """Return the book of the store."""
        return self._book

    def size(self):
        """Return the greatest number of rows that a piece may have."""
        return self._size

    def wrongs(self):
        """Return the list of what went wrong at the dos so far."""
        return list(self._wrongs)

    def loose(self, column):
        """Return the ascending list of the rows without a mark whose owner by a column is not there."""
        home = self._home_of(column)
        return [number for number in self.half(column) if not self._is_marked(home, number)]

    def half(self, column):
        """Return the ascending list of the rows whose owner by a column is not there."""
        home = self._home_of(column)
        goal = self._columns[column][1]
        return [number for number in self._numbers(home) if self._is_gone(goal, self._owners[home][number][column])]

    def is_stuck(self):
        """Tell whether some row is marked, though no hand has a list and no piece fits any row."""
        if self._lists or any([self.fits(piece) for piece in self._pieces]):
            return False
        return any([self._is_marked(kind, number) for kind in self._marks for number in self._marks[kind]])

    def copy(self):
        """Return an independent copy."""
        twin = Store(self._book, self._size)
        for kind, is_open in self._book.kinds():
            twin._owners[kind] = {number: dict(owners) for number, owners in self._owners[kind].items()}
            twin._marks[kind] = dict(self._marks[kind])
            twin._used[kind] = dict(self._used[kind])
        twin._lists = dict(self._lists)
        twin._wrongs = list(self._wrongs)
        return twin

    def without(self, fallen):
        """Return a copy without lists, wrongs and these rows, the keys (kind, number) of a dict.

        Rows that refer to them refer to nothing in the copy, where their numbers are still used ones.
        """
        twin = Store(self._book, self._size)
        for kind, is_open in self._book.kinds():
            marks = self._marks[kind]
            kept = [number for number in marks if (kind, number) not in fallen]
            twin._owners[kind] = {number: self._owners_without(kind, number, fallen) for number in kept}
            twin._marks[kind] = {number: marks[number] for number in kept}
            twin._used[kind] = dict(self._used[kind])
        return twin

    def __eq__(self, other):
        if not isinstance(other, Store) or self._book != other._book or self._size != other._size:
            return False
        if self._owners != other._owners or self._marks != other._marks:
            return False
        return self._lists == other._lists

    def _owners_without(self, kind, number, fallen):
        owners = self._owners[kind][number]
        return {name: None if (self._columns[name][1], owners[name]) in fallen else owners[name] for name in owners}

    def _want_kind(self, kind):
        if not is_word_of(kind, self._marks):
            raise UnknownKind(kind)

    def _want_row(self, kind, number):
        self._want_kind(kind)
        if not is_number(number) or number not in self._marks[kind]:
            raise NoRow(kind, number)

    def _want_column(self, kind, column):
        if not is_word_of(column, self._book.columns_of(kind)):
            raise UnknownColumn(column)

    def _want_piece(self, piece):
        if not is_word_of(piece, self._pieces):
            raise BadPiece(piece)

    def _want_list(self, hand):
        if not is_number(hand):
            raise BadNumber(hand)
        if hand not in self._lists:
            raise Idle(hand)

    def _want_new_owner(self, column, owner):
        if owner is not None:
            goal = self._columns[column][1]
            self._want_row(goal, owner)
            if self._is_marked(goal, owner):
                self._refuse("put " + column)

    def _refuse(self, check):
        if check in self._book:
            raise Refused(check)

    def _home_of(self, column):
        if not is_word_of(column, self._columns):
            raise UnknownColumn(column)
        return self._columns[column][0]

    def _kind_of(self, piece):
        word, name = self._pieces[piece]
        return name if word == "fell" else self._columns[name][0]

    def _numbers(self, kind):
        return sorted([int(number) for number in self._marks[kind]])

    def _is_marked(self, kind, number):
        return self._marks[kind].get(number) is not None

    def _is_gone(self, kind, number):
        return number is not None and number not in self._marks[kind]

    def _is_fallen(self, kind, number):
        return self._is_gone(kind, number) or self._is_marked(kind, number)

    def _fitting(self, piece, numbers):
        """Return the list of those of the numbers that fit, in their order."""
        word, name = self._pieces[piece]
        if word == "fell":
            held = self._held(name)
            return [number for number in numbers if self._is_marked(name, number) and number not in held]
        home, goal, rule = self._columns[name]
        owners = self._owners[home]
        found = [number for number in numbers if number in owners and self._is_marked(goal, owners[number][name])]
        if word == "spread":
            return [number for number in found if not self._is_marked(home, number)]
        return found

    def _held(self, kind):
        """Return a dict whose keys are the numbers to which a row refers that keeps them from being felled."""
        held = {}
        is_bare = ("bare " + kind) in self._book
        is_calm = ("calm " + kind) in self._book
        if not is_bare and not is_calm:
            return held
        for column, (home, goal, rule) in self._columns.items():
            if goal != kind:
                continue
            for number, owners in self._owners[home].items():
                if is_bare or not self._is_marked(home, number):
                    held[owners[column]] = True
        return held

    def _spread(self, column, numbers):
        marks = self._marks[self._columns[column][0]]
        changed = [number for number in numbers if marks[number] is None]
        for number in changed:
            marks[number] = column
        return changed

    def _clear(self, column, numbers):
        home, goal, rule = self._columns[column]
        owners = self._owners[home]
        changed = [number for number in numbers if owners[number][column] is not None]
        for number in changed:
            if not self._is_fallen(goal, owners[number][column]):
                self._wrongs.append(("spoilt", column, number))
            owners[number][column] = None
        return changed

    def _fell(self, kind, numbers):
        # All wrongs ahead of the first felling: each is seen in the store as it was ahead of the do.
        for number in numbers:
            self._note_felling(kind, number)
        for number in numbers:
            del self._marks[kind][number]
            del self._owners[kind][number]
        return numbers

    def _note_felling(self, kind, number):
        mark = self._marks[kind][number]
        if mark is None:
            self._wrongs.append(("undue", kind, number))
        elif mark != STRIKE and not self._has_fallen_owner(kind, number):
            self._wrongs.append(("unjust", mark, number))

    def _has_fallen_owner(self, kind, number):
        for column, (home, goal, rule) in self._columns.items():
            if home == kind and rule == "fall" and self._is_fallen(goal, self._owners[kind][number][column]):
                return True
        return False


def _pieces_of(book):
    """Return the dict from the pieces of a book, in their order, to pairs (word, name)."""
    columns = book.columns()
    found = [("spread", name) for name, home, goal, rule in columns if rule == "fall"]
    found.extend([("clear", name) for name, home, goal, rule in columns if rule == "clear"])
    found.extend([("fell", name) for name, is_open in book.kinds()])
    return {word + " " + name: (word, name) for word, name in found}


def _owners_given(columns, owners):
    """Return the dict of the owners that are handed in for a row with these columns."""
    pairs = pairs_of(owners)
    for name, owner in pairs:
        # Only strings have an order; all else goes first.
        if not isinstance(name, str):
            raise UnknownColumn(name)
    for name in sorted([str(pair[0]) for pair in pairs]):
        if name not in columns:
            raise UnknownColumn(name)
    return {name: owner for name, owner in pairs}
