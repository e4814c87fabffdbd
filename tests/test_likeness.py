"""Promise [25]: books that part, and checks that do nothing."""

import random
import unittest

from longstrike.books import Book
from longstrike.errors import UnlikeBooks
from longstrike.likeness import idle, parting
from longstrike.stores import Store
from tests.cases import Case
from tests.drawing import drawn_book, drawn_neighbour, is_done, rows_and_lists

OPEN = [("k", True), ("l", True)]
HOUSE = Book([("house", True), ("room", True)], [("of", "room", "house", "fall")], ["bare house"])


def told_of(one, other):
    return one.kinds(), one.columns(), one.checks(), other.checks()


class LikenessCase(Case):

    def parts_at_last(self, one, other, weaving):
        """All deeds but the last are done by both, with equal rows and lists; at the last one they part."""
        self.assertIs(type(weaving), list)
        self.assertGreater(len(weaving), 0)
        stores = [Store(one), Store(other)]
        for deed in weaving[:-1]:
            self.assertEqual([is_done(store, deed) for store in stores], [True, True], (told_of(one, other), weaving))
            self.assertEqual(rows_and_lists(stores[0]), rows_and_lists(stores[1]), (told_of(one, other), weaving))
        said = [is_done(store, weaving[-1]) for store in stores]
        if said[0] == said[1]:
            self.assertTrue(said[0])
            self.assertNotEqual(rows_and_lists(stores[0]), rows_and_lists(stores[1]), (told_of(one, other), weaving))

    def are_parted(self, one, other):
        for first, second in ((one, other), (other, one)):
            weaving = parting(first, second)
            self.assertIsNotNone(weaving, told_of(first, second))
            self.parts_at_last(first, second, weaving)

    def do_the_same(self, one, other):
        self.assertIsNone(parting(one, other), told_of(one, other))
        self.assertIsNone(parting(other, one), told_of(one, other))


class Parting(LikenessCase):

    def test_a_book_and_itself(self):
        chance = random.Random(6)
        for _ in range(30):
            book = drawn_book(chance)
            twin = Book(book.kinds(), book.columns(), list(reversed(book.checks())))
            self.do_the_same(book, book)
            self.do_the_same(book, twin)

    def test_each_check_parts_a_book_without_checks(self):
        for columns in ([("c", "k", "l", "fall")], [("c", "k", "l", "clear")], [("c", "k", "k", "fall")]):
            book = Book(OPEN, columns)
            for check in book.menu():
                # Without bare and calm nothing but a new life of the row counts at the second look.
                if not (columns[0][1:3] == ("k", "k") and check in ("bare l", "calm l")) and check not in ("bare k", "calm k"):
                    self.are_parted(book, book + check)

    def test_bare_and_calm(self):
        for rule in ("fall", "clear"):
            book = Book(OPEN, [("c", "k", "l", rule)])
            self.are_parted(book, book + "bare l")
            self.are_parted(book, book + "calm l")
            self.are_parted(book + "bare l", book + "calm l")
            self.do_the_same(book + "bare l", book + "bare l" + "calm l")
            self.do_the_same(book, book + "bare k" + "calm k")
        closed = Book([("k", False), ("l", True)], [("c", "k", "l", "clear")])
        self.do_the_same(closed + "bare l", closed + "calm l")

    def test_second_looks(self):
        book = Book(OPEN, [("c", "k", "l", "fall")])
        self.are_parted(book, book + "again k")
        self.do_the_same(book + "fresh", book + "fresh" + "again k")
        self.do_the_same(book + "lone", book + "lone" + "again k")
        self.do_the_same(book + "fresh", book + "fresh" + "again l")
        self.are_parted(book + "fresh" + "bare l", book + "fresh" + "bare l" + "again l")
        self.are_parted(book + "lone" + "calm l", book + "lone" + "calm l" + "again l")
        self.are_parted(book + "fresh", book + "fresh" + "again c")
        kept = book + "fresh" + "keep c" + "lone"
        self.do_the_same(kept, kept + "again c")

    def test_turns(self):
        book = Book(OPEN, [("c", "k", "l", "fall")])
        self.are_parted(book + "hold c", book + "hold c" + "keep c")
        self.are_parted(book + "turn c", book + "put c")
        self.are_parted(book + "keep c", book + "hold c")
        closed = Book([("k", False), ("l", True)], [("c", "k", "l", "fall")], ["keep c", "fresh"])
        self.do_the_same(closed, closed + "hold c")
        self.are_parted(closed - "fresh", closed - "fresh" + "hold c")

    def test_nothing_parts_closed_books(self):
        book = Book([("k", False), ("l", False)], [("c", "k", "l", "fall"), ("d", "k", "k", "clear")])
        full = Book(book.kinds(), book.columns(), book.menu())
        self.do_the_same(book, full)
        for check in book.menu():
            self.do_the_same(book, book + check)
            self.do_the_same(full, full - check)

    def test_no_columns(self):
        book = Book([("k", True), ("l", False)])
        for check in ("lone", "fresh", "again k"):
            self.are_parted(book, book + check)
        for check in ("bare k", "calm k", "bare l", "calm l", "again l"):
            self.do_the_same(book, book + check)

    def test_kinds_that_are_marked_by_their_owners(self):
        kinds = [("k", False), ("l", False), ("m", True)]
        columns = [("c", "k", "l", "clear"), ("d", "l", "m", "fall")]
        book = Book(kinds, columns)
        for check in book.menu():
            if check in ("again k", "bare k", "calm k", "hold c"):
                self.do_the_same(book, book + check)
            else:
                self.are_parted(book, book + check)
        marked_twice = Book([("k", False), ("l", True)], [("c", "k", "l", "clear"), ("d", "k", "l", "fall")])
        for check in ("hold c", "again k", "lone", "again c"):
            self.are_parted(marked_twice, marked_twice + check)

    def test_lone_beside_other_checks(self):
        """A mark that comes by a fall column takes several deeds, which lone may refuse in their midst."""
        kinds = [("k", False), ("l", False), ("m", True)]
        columns = [("c", "k", "l", "fall"), ("d", "l", "m", "fall"), ("e", "k", "m", "fall")]
        book = Book(kinds, columns)
        for check in book.menu():
            if check != "lone":
                self.are_parted(book + check, book + "lone")

    def test_several_checks(self):
        book = Book(OPEN, [("c", "k", "l", "fall"), ("d", "l", "l", "clear")])
        self.are_parted(book, Book(book.kinds(), book.columns(), book.menu()))
        self.are_parted(book + "put c" + "lone", book + "turn d" + "fresh")
        self.are_parted(book + "put c", book + "put d")

    def test_other_shapes(self):
        others = [
            Book([("house", True), ("room", True)]),
            Book([("house", True), ("room", False)], HOUSE.columns(), HOUSE.checks()),
            Book([("room", True), ("house", True)], HOUSE.columns(), HOUSE.checks()),
            Book(HOUSE.kinds(), [("of", "room", "house", "clear")], HOUSE.checks()),
            Book(HOUSE.kinds(), [("of", "house", "house", "fall")], HOUSE.checks()),
            Book(HOUSE.kinds(), [("in", "room", "house", "fall")], HOUSE.checks()),
            Book([*HOUSE.kinds(), ("bed", False)], HOUSE.columns(), HOUSE.checks()),
            Book(HOUSE.kinds(), [*HOUSE.columns(), ("at", "room", "house", "fall")], HOUSE.checks()),
        ]
        for other in others:
            self.fails(UnlikeBooks(), parting, HOUSE, other)
            self.fails(UnlikeBooks(), parting, other=HOUSE, one=other)
            self.assertIsNone(parting(other, other))

    def test_the_same_for_equal_arguments(self):
        chance = random.Random(7)
        for _ in range(30):
            book = drawn_book(chance)
            other = drawn_neighbour(chance, book)
            twin = Book(book.kinds(), book.columns(), list(reversed(book.checks())))
            told = parting(book, other)
            self.assertEqual(parting(book, other), told)
            self.assertEqual(parting(twin, other), told)
            if told is not None:
                told.clear()
                self.assertNotEqual(parting(book, other), told)

    def test_by_names(self):
        self.assertEqual(parting(other=HOUSE + "lone", one=HOUSE), parting(HOUSE, HOUSE + "lone"))

    def test_drawn_books(self):
        chance = random.Random(25)
        said = []
        for _ in range(250):
            book = drawn_book(chance)
            other = drawn_neighbour(chance, book)
            said.append(parting(book, other) is None)
            if said[-1]:
                self.do_the_same(book, other)
            else:
                self.are_parted(book, other)
        self.assertGreater(said.count(True), 50)
        self.assertGreater(said.count(False), 100)


class Idle(LikenessCase):

    def test_the_worked_line(self):
        self.same_list(idle(Book([("a", False)], [], ["bare a", "fresh"])), ["bare a", "fresh"])

    def test_none(self):
        self.same_list(idle(Book([("a", False)])), [])
        self.same_list(idle(HOUSE), [])
        self.same_list(idle(Book(OPEN, [("c", "k", "l", "fall")], ["lone", "put c", "turn c", "hold c"])), [])

    def test_all_of_a_closed_book(self):
        book = Book([("k", False), ("l", False)], [("c", "k", "l", "fall")])
        self.same_list(idle(Book(book.kinds(), book.columns(), list(reversed(book.menu())))), book.menu())

    def test_each_alone(self):
        """Of two checks each may do nothing beside the other, though not both."""
        book = Book(OPEN, [("c", "k", "l", "fall")], ["again k", "bare k", "fresh", "again l", "bare l", "calm l"])
        self.same_list(idle(book), ["bare k", "again k", "calm l"])
        book = Book([("k", True)], [], ["again k", "fresh", "lone"])
        self.same_list(idle(book), ["again k"])
        self.same_list(idle(book - "fresh"), ["again k"])
        self.same_list(idle(book - "fresh" - "lone"), [])

    def test_in_the_order_of_the_menu(self):
        book = Book([("k", False), ("l", True)], [("c", "k", "k", "clear")], ["fresh", "calm k", "put c", "bare k", "again c"])
        self.same_list(idle(book), ["put c", "again c", "bare k", "calm k"])

    def test_drawn_books(self):
        chance = random.Random(26)
        many = 0
        for _ in range(60):
            book = drawn_book(chance)
            found = idle(book)
            self.same_list(found, [check for check in book.checks() if parting(book - check, book) is None])
            for check in book.checks():
                if check not in found:
                    self.are_parted(book, book - check)
            many += len(found)
        self.assertGreater(many, 60)

    def test_the_same_for_equal_arguments(self):
        chance = random.Random(8)
        for _ in range(20):
            book = drawn_book(chance)
            twin = Book(book.kinds(), book.columns(), list(reversed(book.checks())))
            told = idle(book)
            self.assertEqual(idle(book=twin), told)
            told.append("lone")
            self.assertNotEqual(idle(book), told)


if __name__ == "__main__":
    unittest.main()
