"""Promise [30]: texts of books."""

import random
import re
import unittest

from longstrike.book_texts import read_book, write_book
from longstrike.books import Book
from longstrike.errors import BadLine, BadName, BadRule, NameInUse, UnknownCheck, UnknownKind
from tests.cases import Case
from tests.drawing import drawn_book

KINDS = [("house", True), ("room", True), ("key", False)]
COLUMNS = [("of", "room", "house", "fall"), ("to", "key", "room", "clear"), ("by", "key", "key", "fall")]
LINES = [
    "open kind house", "open kind room", "kind key",
    "column of from room to house fall", "column to from key to room clear", "column by from key to key fall",
    "check put of", "check again to", "check bare house", "check lone",
]
BOOK = Book(KINDS, COLUMNS, ["lone", "bare house", "put of", "again to"])


def text_of(*lines):
    return "\n".join(lines)


class Second:
    """A second reading of [30]: a line is held against patterns, and its words against those of the lines ahead."""

    NAME = "(?!strike(?![a-z]))[a-z]{1,8}"

    def __init__(self):
        self.kinds, self.columns, self.checks = [], [], []

    def takes(self, line):
        """Tell whether the line may stand here, and note it if so."""
        found = re.fullmatch(f"(open )?kind ({self.NAME})", line)
        if found:
            if self.columns or self.checks or len(self.kinds) == 3 or found[2] in dict(self.kinds):
                return False
            self.kinds.append((found[2], found[1] is not None))
            return True
        found = re.fullmatch(f"column ({self.NAME}) from ([a-z]+) to ([a-z]+) (fall|clear)", line)
        if found:
            names = [name for name, *rest in self.kinds + self.columns]
            is_known = found[2] in dict(self.kinds) and found[3] in dict(self.kinds)
            if self.checks or len(self.columns) == 4 or found[1] in names or not is_known:
                return False
            self.columns.append(found.groups())
            return True
        found = re.fullmatch("check (.*)", line)
        if not found or not self.kinds:
            return False
        menu = [f"{word} {name}" for name, *rest in self.columns for word in ("put", "turn", "keep", "hold", "again")]
        menu += [f"{word} {name}" for name, is_open in self.kinds for word in ("bare", "calm", "again")]
        self.checks.append(found[1])
        return found[1] in [*menu, "lone", "fresh"]


def second_read(text):
    """The book of a text, or the index of its first bad line."""
    reader = Second()
    for index, line in enumerate(text.split("\n")):
        if not reader.takes(line):
            return index
    return Book(reader.kinds, reader.columns, reader.checks)


def read(text):
    try:
        return read_book(text)
    except BadLine as error:
        return error.index


class WriteBook(Case):

    def test_all_sorts_of_lines(self):
        self.assertEqual(write_book(BOOK), text_of(*LINES))

    def test_without_columns_and_checks(self):
        self.assertEqual(write_book(Book([("a", False)])), "kind a")
        self.assertEqual(write_book(Book([("a", True)])), "open kind a")
        self.assertEqual(write_book(Book([("b", True), ("a", False)])), "open kind b\nkind a")

    def test_without_columns(self):
        book = Book([("a", False)], [], ["fresh", "calm a", "lone", "bare a"])
        self.assertEqual(write_book(book), "kind a\ncheck bare a\ncheck calm a\ncheck lone\ncheck fresh")

    def test_without_checks(self):
        book = Book([("a", False)], [("z", "a", "a", "clear"), ("b", "a", "a", "fall")])
        self.assertEqual(write_book(book), "kind a\ncolumn z from a to a clear\ncolumn b from a to a fall")

    def test_all_checks(self):
        book = Book([("a", True)], [("b", "a", "a", "fall")])
        book = Book(book.kinds(), book.columns(), book.menu())
        wanted = ["open kind a", "column b from a to a fall", *["check " + check for check in book.menu()]]
        self.assertEqual(write_book(book), text_of(*wanted))

    def test_words_of_the_lines_as_names(self):
        kinds = [("kind", True), ("open", False), ("column", True)]
        columns = [
            ("from", "kind", "open", "fall"), ("to", "open", "open", "clear"), ("check", "column", "kind", "fall"),
            ("fall", "column", "kind", "clear"),
        ]
        book = Book(kinds, columns, ["put fall", "bare open", "again check"])
        self.assertEqual(write_book(book).split("\n"), [
            "open kind kind", "kind open", "open kind column", "column from from kind to open fall",
            "column to from open to open clear", "column check from column to kind fall",
            "column fall from column to kind clear", "check again check", "check put fall", "check bare open",
        ])
        self.assertEqual(read_book(write_book(book)), book)

    def test_the_book_stays(self):
        ahead = [BOOK.kinds(), BOOK.columns(), BOOK.checks()]
        write_book(BOOK)
        self.assertEqual([BOOK.kinds(), BOOK.columns(), BOOK.checks()], ahead)

    def test_by_name(self):
        self.assertEqual(write_book(book=BOOK), text_of(*LINES))


class ReadBook(Case):

    def bad_at(self, index, *lines):
        self.fails(BadLine(index), read_book, text_of(*lines))
        self.assertEqual(second_read(text_of(*lines)), index, "the second reading")

    def is_read(self, book, *lines):
        found = read_book(text_of(*lines))
        self.assertIs(type(found), Book)
        self.assertEqual(found, book)
        self.assertEqual(repr([found.kinds(), found.columns(), found.checks()]),
                         repr([book.kinds(), book.columns(), book.checks()]))

    def test_what_is_written(self):
        self.is_read(BOOK, *LINES)
        for book in (Book([("a", False)]), Book([("a", True)], [], ["fresh"]), Book(KINDS, COLUMNS), Book(KINDS)):
            self.is_read(book, write_book(book))

    def test_drawn_books(self):
        chance = random.Random(301)
        for _ in range(200):
            book = drawn_book(chance)
            self.is_read(book, write_book(book))

    def test_all_names(self):
        for name in ("a", "z", "abcdefgh", "strikes", "strik", "lone", "fresh", "put", "open", "kind"):
            self.is_read(Book([(name, True)]), "open kind " + name)
            lines = ["kind " + name, f"column q from {name} to {name} fall"]
            self.is_read(Book([(name, False)], [("q", name, name, "fall")]), *lines)

    def test_checks_in_any_order_and_twice(self):
        self.is_read(BOOK, *LINES[:6], *reversed(LINES[6:]))
        self.is_read(BOOK, *LINES[:6], *LINES[6:], *LINES[6:])
        self.is_read(BOOK, *LINES[:6], LINES[9], LINES[7], LINES[9], LINES[6], LINES[8], LINES[9])
        self.is_read(Book([("a", True)], [], ["lone"]), "open kind a", *["check lone"] * 300)

    def test_kinds_and_columns_in_other_orders(self):
        kinds, columns = [KINDS[2], KINDS[0], KINDS[1]], [COLUMNS[1], COLUMNS[2], COLUMNS[0]]
        book = Book(kinds, columns, BOOK.checks())
        self.is_read(book, LINES[2], LINES[0], LINES[1], LINES[4], LINES[5], LINES[3], *LINES[6:])
        self.assertNotEqual(book, BOOK)

    def test_as_many_as_there_may_be(self):
        names = ["w", "x", "y", "z"]
        lines = ["kind a", "open kind b", "kind c", *[f"column {name} from a to b fall" for name in names]]
        book = Book([("a", False), ("b", True), ("c", False)], [(name, "a", "b", "fall") for name in names])
        self.is_read(book, *lines)
        self.is_read(book + "lone" + "put z", *lines, "check lone", "check put z")
        self.bad_at(7, *lines, "column v from a to b fall")
        self.bad_at(3, *lines[:3], "kind d", *lines[3:])
        self.bad_at(3, *lines[:3], "open kind d")
        self.bad_at(8, *lines, "check lone", "column v from a to b fall")

    def test_empty_lines(self):
        self.fails(BadLine(0), read_book, "")
        self.fails(BadLine(0), read_book, "\n")
        self.bad_at(0, "", *LINES)
        for at in range(len(LINES) + 1):
            self.bad_at(at, *LINES[:at], "", *LINES[at:])
        self.bad_at(len(LINES), *LINES, "", "")

    def test_spaces(self):
        for at, line in enumerate(LINES):
            places = [place for place, letter in enumerate(line) if letter == " "]
            changed = [line + " ", " " + line, line + "  "]
            changed += [line[:place] + " " + line[place:] for place in places]
            changed += [line[:place] + line[place + 1:] for place in places]
            changed += [line[:place] + "\t" + line[place + 1:] for place in places]
            for other in changed:
                self.bad_at(at, *LINES[:at], other, *LINES[at + 1:])

    def test_other_ends_of_lines(self):
        for end in ("\r", "\r\n", "\f", "\x0b", "\x1c", "\x85", "\u2028"):
            self.fails(BadLine(0), read_book, "open kind a" + end + "kind b")
        self.fails(BadLine(0), read_book, "kind a\r\nkind b")
        self.fails(BadLine(1), read_book, "kind a\nkind b\r")
        self.fails(BadLine(1), read_book, "kind a\ncheck lone\r\ncheck fresh")

    def test_words_that_are_none(self):
        bad = [
            "kind", "open", "open kind", "kind ", "open kind ", "open house", "open column a", "kinds a", "Kind a",
            "kind A", "house", "kind a b", "open open kind a", "kind open kind a", "open kind a b", "closed kind a",
            "kind a1",
            "kind abcdefghi", "kind strike", "open kind strike", "kind -", "kind 0", "True kind a", "#", "-",
            "kind \u00e4",
        ]
        for line in bad:
            self.bad_at(0, line, *LINES)
            self.bad_at(1, "kind key", line, "kind last")

    def test_bad_columns(self):
        bad = [
            "column", "column x", "column x from room to house", "column x from room to house fall fall",
            "column x of room to house fall", "column x from room of house fall", "column x room house fall",
            "columns x from room to house fall", "Column x from room to house fall", "column x to room from house fall",
            "column from room to house fall", "column x from to house fall", "column X from room to house fall",
            "column strike from room to house fall", "column abcdefghi from room to house fall",
            "column house from room to house fall", "column of from room to house fall",
            "column x from of to house fall", "column x from room to none fall", "column x from none to room fall",
            "column x from room to house Fall",
            "column x from room to house strike", "column x from room to house fell", "x from room to house fall",
        ]
        for line in bad:
            self.bad_at(4, *LINES[:4], line, *LINES[6:])
            self.bad_at(4, *LINES[:4], line)

    def test_bad_checks(self):
        bad = [
            "check", "check ", "check put", "check of", "check none", "check put x", "check put house", "check bare of",
            "check bare none", "check loner", "check lone fresh", "check put of of", "checks lone", "Check lone",
            "lone", "put of", "check again lone", "check Lone", "check fresh of", "check check lone",
            "check calm strike",
        ]
        for line in bad:
            self.bad_at(7, *LINES[:7], line, *LINES[7:])
            self.bad_at(10, *LINES, line)
            self.bad_at(1, "kind key", line)

    def test_lines_behind_those_of_a_later_sort(self):
        self.bad_at(2, "kind a", "column x from a to a fall", "kind b")
        self.bad_at(2, "kind a", "column x from a to a fall", "open kind b")
        self.bad_at(2, "kind a", "check lone", "kind b")
        self.bad_at(2, "kind a", "check lone", "open kind b", "check fresh")
        self.bad_at(2, "kind a", "check lone", "column x from a to a fall")
        self.bad_at(3, "kind a", "column x from a to a fall", "check lone", "column y from a to a fall")
        self.bad_at(3, "kind a", "column x from a to a fall", "check lone", "kind b")

    def test_a_first_line_that_is_no_kinds(self):
        self.bad_at(0, "check lone")
        self.bad_at(0, "check fresh", "kind a")
        self.bad_at(0, "check bare a", "kind a")
        self.bad_at(0, "column x from a to a fall", "kind a")
        self.bad_at(0, "put a 0", "kind a")

    def test_kinds_and_columns_that_come_later(self):
        self.bad_at(1, "kind a", "column x from a to b fall", "kind b")
        self.bad_at(1, "kind a", "check put x", "column x from a to a fall")
        self.bad_at(1, "kind a", "check bare b", "kind b")

    def test_each_error_of_a_book(self):
        """The lines up to a bad one make a book that cannot be, with an error of its own."""
        kinds, column = [("house", True), ("room", True)], ("of", "room", "house", "fall")
        self.fails(BadName("strike"), Book, [*kinds, ("strike", False)])
        self.bad_at(2, *LINES[:2], "kind strike")
        self.fails(NameInUse("room"), Book, [*kinds, ("room", False)])
        self.bad_at(2, *LINES[:2], "kind room")
        self.fails(BadName("strike"), Book, kinds, [column, ("strike", "room", "house", "fall")])
        self.bad_at(3, *LINES[:2], LINES[3], "column strike from room to house fall")
        for name in ("of", "house"):
            self.fails(NameInUse(name), Book, kinds, [column, (name, "room", "house", "fall")])
            self.bad_at(3, *LINES[:2], LINES[3], f"column {name} from room to house fall")
        self.fails(UnknownKind("of"), Book, kinds, [column, ("x", "of", "house", "fall")])
        self.bad_at(3, *LINES[:2], LINES[3], "column x from of to house fall")
        self.fails(UnknownKind("x"), Book, kinds, [column, ("x", "room", "x", "fall")])
        self.bad_at(3, *LINES[:2], LINES[3], "column x from room to x fall")
        self.fails(BadRule("put"), Book, kinds, [column, ("x", "room", "room", "put")])
        self.bad_at(3, *LINES[:2], LINES[3], "column x from room to room put")
        self.fails(UnknownCheck("hold x"), Book, kinds, [column], ["hold of", "hold x"])
        self.bad_at(4, *LINES[:2], LINES[3], "check hold of", "check hold x")

    def test_the_first_of_several(self):
        self.bad_at(1, "kind a", "kind a", "", "column", "check none")
        self.bad_at(2, "kind a", "kind b", "", "kind a", "kind strike")
        self.bad_at(3, "kind a", "check lone", "check lone", "check none", "kind b")

    def test_by_name(self):
        self.assertEqual(read_book(text="kind a"), Book([("a", False)]))
        self.fails(BadLine(1), read_book, text="kind a\n")

    def test_changed_texts(self):
        """Texts with a change or two: words and lines left out, put in, exchanged, and letters."""
        chance = random.Random(302)
        seen = {True: 0, False: 0}
        for _ in range(3000):
            lines = write_book(drawn_book(chance)).split("\n")
            for _ in range(chance.randint(1, 2)):
                change(chance, lines)
            text = text_of(*lines)
            wanted = second_read(text)
            self.assertEqual(read(text), wanted, text)
            seen[isinstance(wanted, int)] += 1
        self.assertTrue(all(many > 400 for many in seen.values()), seen)


def change(chance, lines):
    """Change a line, or the list of the lines."""
    at = chance.randrange(len(lines))
    words = lines[at].split(" ")
    place = chance.randrange(len(words))
    word = chance.choice(["word", "words", "letter", "lines", "more", "none", "end"])
    if word == "word":
        words[place] = chance.choice(["a", "b", "p", "q", "kind", "open", "column", "check", "fall", "lone", ""])
    elif word == "words":
        other = chance.randrange(len(words))
        words[place], words[other] = words[other], words[place]
    elif word == "letter":
        words[place] = words[place][1:] + chance.choice(["", "a", "A", "-", "\t", "\n"])
    elif word == "more":
        words.insert(place, chance.choice(["a", "open", "", "to"]))
    lines[at] = " ".join(words)
    other = chance.randrange(len(lines))
    if word == "lines":
        lines[at], lines[other] = lines[other], lines[at]
    elif word == "end":
        lines.insert(other, lines[at])
    elif word == "none" and len(lines) > 1:
        del lines[at]


if __name__ == "__main__":
    unittest.main()
