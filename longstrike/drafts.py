"""Drafts: weavings that do in a store of size 1 what the moves of a watch do."""

from longstrike.weavings import put_deed

# The hands of the two lists of a watch, and the hand of the rows that help.
HANDS = (0, 1)
HELPING_HAND = 2
NUMBERS = {"x": 0, "y": 1, "z": 2}


class Draft:
    """A weaving in the making."""

    def __init__(self, book):
        self.deeds = []
        self._book = book
        self._last_number = len(NUMBERS) - 1

    def put(self, kind, number, owners):
        """Put a row with these owners, a dict from columns to numbers."""
        self.deeds.append(put_deed(self._book, kind, number, owners))

    def put_helped(self, kind, number, owners, way):
        """Put a row, and the rows by which a mark can come to it on this way; return the deeds that mark it.

        The rows that help are put anew each time, as marked ones may refuse to be referred to.
        """
        if not way:
            self.put(kind, number, owners)
            return [("strike", kind, number)]
        column, goal = way[0]
        helper = self._last_number + 1
        self._last_number = helper
        deeds = self.put_helped(goal, helper, {}, way[1:])
        self.put(kind, number, {**owners, column: helper})
        return [*deeds, *piece_done(HELPING_HAND, "spread " + column, number)]


class WatchDraft:
    """A draft that follows the moves of a watch."""

    def __init__(self, book, watch):
        self._draft = Draft(book)
        self._column = watch.column
        self._rows = {row: (kind, NUMBERS[row]) for row, kind in watch.kinds_of_rows.items()}
        # By the watched column x refers to y, to z or to nothing, so it is not free for a way.
        self._ways = {row: _way_to(book, kind, watch.column) for row, kind in watch.kinds_of_rows.items()}
        self._pieces = _pieces_of(watch)
        # By the rows: the deeds that mark them, as they were put.
        self._marking = {}
        # By the hands: the letters of their lists.
        self._letters = {}

    def weaving(self, moves):
        """Return the list of the deeds for these moves."""
        for at, move in enumerate(moves):
            word = move[0]
            if word == "put":
                self._put(move[1], move[2], _is_marked_next(move[1], moves[at + 1:]))
            elif word == "turn":
                kind, number = self._rows["x"]
                self._draft.deeds.append(("turn", kind, number, self._column, self._number_of(move[2])))
            elif word == "mark":
                self._draft.deeds.extend(self._marking[move[1]])
            elif word == "look":
                self._look(move[1])
            else:
                self._draft.deeds.append((word, self._hand_of(move[1])))
        return self._draft.deeds

    def _number_of(self, owner):
        return None if owner == "-" else self._rows[owner][1]

    def _put(self, row, owner, is_marked):
        kind, number = self._rows[row]
        owners = {} if owner == "-" else {self._column: self._number_of(owner)}
        # No rows that are not going to help.
        way = self._ways[row] if is_marked else []
        self._marking[row] = self._draft.put_helped(kind, number, owners, way)

    def _look(self, letter):
        hand = [free for free in HANDS if free not in self._letters][0]
        piece, row = self._pieces[letter]
        self._letters[hand] = letter
        self._draft.deeds.append(("look", hand, piece, (self._rows[row][1],)))

    def _hand_of(self, letter):
        """Return the first hand with a list of this letter, which it has no more."""
        hand = [busy for busy in HANDS if self._letters.get(busy) == letter][0]
        del self._letters[hand]
        return hand


def weaving_of(book, watch, moves):
    """Return the list of the deeds that do in a store of the book what the moves do in a watch."""
    return WatchDraft(book, watch).weaving(moves)


def piece_done(hand, piece, number):
    """Return the list of the deeds by which a hand does a piece for a row."""
    return [("look", hand, piece, (number,)), ("do", hand)]


def ways_to_open(book):
    """Return the dict from the markable kinds to ways of fall columns, each from a kind to an open one.

    A way is a list of pairs (column, goal); its kinds are all different.
    """
    ways = {kind: [] for kind, is_open in book.kinds() if is_open}
    for _ in book.kinds():
        for name, home, goal, rule in book.columns():
            if rule == "fall" and goal in ways and home not in ways:
                ways[home] = [(name, goal), *ways[goal]]
    return ways


def _way_to(book, kind, watched):
    """Return a shortest way by which a mark comes to a row of a kind, though not by the watched column.

    It is empty for an open kind, of which rows are struck, and where there is no such way.
    """
    ways = ways_to_open(book)
    if ways.get(kind) == []:
        return []
    found = [
        [(name, goal), *ways[goal]]
        for name, home, goal, rule in book.columns()
        if name != watched and home == kind and rule == "fall" and goal in ways
    ]
    return min(found, key=len, default=[])


def _pieces_of(watch):
    """Return the dict from the letters of a watch to pairs of a piece and the row for which it is done."""
    found = {"X": ("fell " + watch.kinds_of_rows["x"], "x")}
    if watch.column is not None:
        found["Y"] = ("fell " + watch.kinds_of_rows["y"], "y")
        found["S"] = ("spread " + watch.column, "x")
        found["C"] = ("clear " + watch.column, "x")
    return found


def _is_marked_next(row, moves):
    """Tell whether a row is marked by one of these moves ahead of its next put."""
    for move in moves:
        if move[0] in ("put", "mark") and move[1] == row:
            return move[0] == "mark"
    return False
