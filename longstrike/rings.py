"""Rings: marked rows of tight kinds, each of which waits for the next."""

from itertools import product

from longstrike.drafts import HANDS, Draft, piece_done, ways_to_open
from longstrike.tables import tight_columns
from longstrike.weavings import done, played


def ring_weaving(book):
    """Return a list of deeds behind whose last one a store of a book with a ring of tight kinds is stuck."""
    ways = ways_to_open(book)
    ring = _begun_near(_shortest_ring(tight_columns(book)), ways)
    deeds = _ring_deeds(book, ring, ways)
    store = played(book, deeds)
    # Rows that helped may still be felled, but those of the ring are not.
    while not store.is_stuck():
        piece = [found for found in store.pieces() if store.fits(found)][0]
        for deed in piece_done(HANDS[0], piece, store.fits(piece)[0]):
            done(store, deed)
            deeds.append(deed)
    return deeds


def _shortest_ring(columns):
    """Return a shortest tuple of at least two columns, of which each begins where the one before ends, all around.

    There are at most three kinds, and no row is its own owner, so the rings have two or three rows.
    """
    rings = [pair for pair in product(columns, columns) if _is_ring(pair)]
    if not rings:
        rings = [triple for triple in product(columns, columns, columns) if _is_ring(triple)]
    return rings[0]


def _is_ring(columns):
    # The goal of the column at index -1 is the home of the first one.
    return all([columns[at - 1][2] == column[1] for at, column in enumerate(columns)])


def _begun_near(ring, ways):
    """Return the ring from the column on from whose home the way to an open kind is shortest.

    So that way begins with a column that is not in the ring.
    """
    lengths = [len(ways[home]) for name, home, goal, rule in ring]
    at = lengths.index(min([int(length) for length in lengths]))
    return [*ring[at:], *ring[:at]]


def _ring_deeds(book, ring, ways):
    """Return the list of the deeds that put and mark a row for each column of a ring."""
    draft = Draft(book)
    is_open = dict(book.kinds())
    first, home, goal, rule = ring[0]
    marking = draft.put_helped(home, 0, {}, ways[home])
    last = 0
    # Against the ring, as a row is put behind its owner.
    for name, kind, owner, word in reversed(ring[1:]):
        number = last + 1
        draft.put(kind, number, {name: last})
        piece = piece_done(HANDS[0], "spread " + name, number)
        marking.extend([("strike", kind, number)] if is_open[kind] else piece)
        last = number
    draft.deeds.append(("turn", home, 0, first, last))
    return [*draft.deeds, *marking]
