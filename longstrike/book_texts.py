"""Texts of books: a line for each kind, each column and each check."""

from longstrike.books import Book
from longstrike.errors import BadLine, StrikeError

MOST_KINDS = 3
MOST_COLUMNS = 4


def write_book(book):
    """Return the text of a book."""
    lines = [("open kind " if is_open else "kind ") + name for name, is_open in book.kinds()]
    lines.extend([f"column {name} from {home} to {goal} {rule}" for name, home, goal, rule in book.columns()])
    lines.extend(["check " + check for check in book.checks()])
    return "\n".join(lines)


def read_book(text):
    """Return the book of a text."""
    book = Book(())
    for index, line in enumerate(text.split("\n")):
        words = line.split(" ")
        if not _may_come(book, words):
            raise BadLine(index)
        try:
            book = _with_line(book, words)
        except StrikeError as error:
            raise BadLine(index) from error
    return book


def _may_come(book, words):
    """Tell whether the words have the form of a line that may stand behind the lines of a book."""
    kinds, columns = book.kinds(), book.columns()
    if _is_of_a_kind(words):
        return len(kinds) < MOST_KINDS and not columns and len(book) == 0
    if _is_of_a_column(words):
        return len(columns) < MOST_COLUMNS and len(book) == 0
    return words[0] == "check" and len(kinds) > 0


def _is_of_a_kind(words):
    return words[:-1] == ["kind"] or words[:-1] == ["open", "kind"]


def _is_of_a_column(words):
    return len(words) == 7 and [words[0], words[2], words[4]] == ["column", "from", "to"]


def _with_line(book, words):
    """Return the book with a line that has such a form, or raise the error of the book."""
    kinds, columns = book.kinds(), book.columns()
    if _is_of_a_kind(words):
        return Book([*kinds, (words[-1], words[0] == "open")])
    if _is_of_a_column(words):
        return Book(kinds, [*columns, (words[1], words[3], words[5], words[6])])
    return book + " ".join(words[1:])
