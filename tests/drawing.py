"""Drawn books and deeds, the same in each run: what is told of books must agree with what stores do."""

import itertools

from longstrike.books import Book
from longstrike.errors import StrikeError
from longstrike.weavings import done

KINDS = ("a", "b", "c")
COLUMNS = ("p", "q", "r", "s")
SHARES = (0, 0.1, 0.25, 0.5, 0.75, 0.95)


def drawn_book(chance, is_open=None, most_kinds=3, most_columns=4):
    """A book of one to three kinds and one to four columns, with few or many checks."""
    many = chance.randint(1, most_kinds)
    kinds = [(name, chance.random() < 0.5 if is_open is None else is_open) for name in KINDS[:many]]
    columns = [
        (name, chance.choice(KINDS[:many]), chance.choice(KINDS[:many]), chance.choice(["fall", "fall", "clear"]))
        for name in COLUMNS[:chance.randint(1, most_columns)]
    ]
    share = chance.choice(SHARES)
    menu = Book(kinds, columns).menu()
    return Book(kinds, columns, [check for check in menu if chance.random() < share])


def drawn_neighbour(chance, book):
    """A book of the same shape that differs in one check or in some."""
    changed = chance.sample(book.menu(), chance.choice([1, 1, 1, 2, 4]))
    return Book(book.kinds(), book.columns(), [check for check in book.menu() if (check in book) != (check in changed)])


def books_of_one_column(kinds, column, checks):
    """All books of these kinds and this column with some of these checks."""
    for size in range(len(checks) + 1):
        for chosen in itertools.combinations(checks, size):
            yield Book(kinds, [column], chosen)


def drawn_deed(chance, store, many=3):
    """A deed that the store most often does; numbers are below `many`, hands below 3."""
    word = chance.choice(["put", "put", "turn", "turn", "strike", "look", "look", "look", "do", "do", "do", "stop"])
    book = store.book()
    if word == "put":
        kind = chance.choice(book.kinds())[0]
        names = [name for name in book.columns_of(kind) if chance.random() < 0.7]
        goals = {column[0]: column[2] for column in book.columns()}
        owners = tuple((name, drawn_number(chance, store, goals[name], many)) for name in names)
        return ("put", kind, chance.randrange(many), owners)
    if word == "turn":
        name, home, goal, rule = chance.choice(book.columns())
        owner = chance.choice([None, drawn_number(chance, store, goal, many)])
        return ("turn", home, drawn_number(chance, store, home, many), name, owner)
    if word == "strike":
        kind = chance.choice([kind for kind, is_open in book.kinds() if is_open] or ["a"])
        return ("strike", kind, drawn_number(chance, store, kind, many))
    if word == "look":
        return drawn_look(chance, store, many)
    return (word, chance.choice(list(store.lists()) or [0]))


def drawn_number(chance, store, kind, many):
    """The number of a row that is there, if there is one, or now and then any number."""
    numbers = [number for number, owners, mark in store.rows(kind)]
    return chance.choice(numbers) if numbers and chance.random() < 0.9 else chance.randrange(many)


def drawn_look(chance, store, many):
    """A look, most often at rows that fit."""
    hand = chance.randrange(3)
    found = [(piece, store.fits(piece)) for piece in store.pieces() if store.fits(piece)]
    if not found or chance.random() < 0.1:
        return ("look", hand, chance.choice(store.pieces()), (chance.randrange(many),))
    piece, numbers = chance.choice(found)
    return ("look", hand, piece, tuple(chance.sample(numbers, chance.randint(1, min(len(numbers), store.size())))))


def is_done(store, deed):
    """Do a deed; tell whether it was done or refused."""
    try:
        done(store, deed)
    except StrikeError:
        return False
    return True


def rows_and_lists(store):
    return [store.rows(name) for name, is_open in store.book().kinds()], store.lists()
