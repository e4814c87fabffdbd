"""Stores in which nothing more is to be done: all at once, or piece by piece."""

# All lists are dropped ahead of the first piece, so any hand is free.
HAND = 0


def whole(store):
    """Return a store in which the marked rows, and all that fall with them, are taken out at once."""
    return store.without(_fallen(store))


def rest(store):
    """Return a store in which one hand does the first piece that fits, for its first row, as long as one fits."""
    resting = store.copy()
    for hand in list(store.lists()):
        resting.stop(hand)
    found = _first_fit(resting)
    while found is not None:
        piece, number = found
        resting.look(HAND, piece, (number,))
        resting.do(HAND)
        found = _first_fit(resting)
    return resting


def _fallen(store):
    """Return the dict whose keys are the pairs (kind, number) of the rows that are marked or fall with such rows."""
    kinds = [name for name, is_open in store.book().kinds()]
    waiting = [(kind, number) for kind in kinds for number, owners, mark in store.rows(kind) if mark is not None]
    followers = _followers(store)
    fallen = {}
    while waiting:
        row = waiting.pop()
        if row not in fallen:
            fallen[row] = True
            waiting.extend(followers.get(row, ()))
    return fallen


def _followers(store):
    """Return the dict from pairs (kind, number) to the lists of the rows that refer to them by fall columns."""
    found = {}
    for name, home, goal, rule in store.book().columns():
        if rule == "fall":
            for number, owners, mark in store.rows(home):
                found.setdefault((goal, owners[name]), []).append((home, number))
    return found


def _first_fit(store):
    """Return the pair of the first piece that fits any row and the number of its first row, or None."""
    for piece in store.pieces():
        numbers = store.fits(piece)
        if numbers:
            return (piece, numbers[0])
    return None
