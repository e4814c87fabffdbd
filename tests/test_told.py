"""Promise [12]: what stores tell of themselves, copies, and equal stores."""

import unittest

from longstrike.books import Book
from longstrike.errors import NoRow, UnknownColumn, UnknownKind
from longstrike.stores import Store
from tests.cases import Case, odd_things, told

KINDS = [("house", True), ("room", True)]
COLUMNS = [("of", "room", "house", "fall"), ("by", "room", "room", "clear"), ("at", "house", "room", "clear")]


def book_with(*checks):
    return Book(KINDS, COLUMNS, checks)


def small_store(*checks, size=2):
    """Houses 3 (marked) and 0; rooms 10 (marked, of 3), 9 (of 3, by 10), 2."""
    store = Store(book_with(*checks), size)
    store.put("house", 3)
    store.put("house", 0)
    store.put("room", 10, {"of": 3})
    store.put("room", 9, {"by": 10, "of": 3})
    store.put("room", 2)
    store.strike("house", 3)
    store.look(4, "spread of", [10])
    store.do(4)
    store.look(4, "spread of", [9])
    store.look(0, "fell room", (10,))
    return store


def undue_store():
    """A store in which a row without a mark was felled."""
    store = Store(book_with())
    store.put("house", 0)
    store.strike("house", 0)
    for hand in (0, 1):
        store.look(hand, "fell house", [0])
    store.do(0)
    store.put("house", 0)
    store.do(1)
    return store


class Told(Case):

    def test_rows(self):
        store = small_store()
        rooms = [(2, {"of": None, "by": None}, None), (9, {"of": 3, "by": 10}, None), (10, {"of": 3, "by": None}, "of")]
        self.same_list(store.rows("room"), rooms)
        self.same_list(store.rows("house"), [(0, {"at": None}, None), (3, {"at": None}, "strike")])

    def test_the_order_of_the_owners(self):
        store = small_store()
        store.turn("room", 9, "by", None)
        store.turn("room", 9, "of", None)
        self.assertEqual([list(owners) for number, owners, mark in store.rows("room")], [["of", "by"]] * 3)

    def test_owner_and_mark(self):
        store = small_store()
        self.assertEqual([store.owner("room", 9, "of"), store.owner("room", 9, "by")], [3, 10])
        self.assertIsNone(store.owner("room", 2, "of"))
        self.assertEqual([store.mark("room", number) for number in (2, 9, 10)], [None, None, "of"])
        self.assertEqual([store.mark("house", number) for number in (0, 3)], [None, "strike"])

    def test_unknown_kind(self):
        store = small_store()
        for thing in odd_things() + ["of", "key"]:
            self.refuses(store, UnknownKind(thing), store.rows, thing)
            self.refuses(store, UnknownKind(thing), store.owner, thing, -1, "none")
            self.refuses(store, UnknownKind(thing), store.mark, thing, -1)

    def test_no_row(self):
        store = small_store()
        for thing in odd_things() + [0, 3, "9"]:
            self.refuses(store, NoRow("room", thing), store.owner, "room", thing, "none")
            self.refuses(store, NoRow("room", thing), store.mark, "room", thing)

    def test_unknown_column(self):
        store = small_store()
        for thing in odd_things() + ["at", "none", "room"]:
            self.refuses(store, UnknownColumn(thing), store.owner, "room", 9, thing)

    def test_lists(self):
        store = small_store()
        self.assertEqual(store.lists(), {4: ("spread of", (9,)), 0: ("fell room", (10,))})
        for piece, numbers in store.lists().values():
            self.assertIs(type(numbers), tuple)
        for pair in store.lists().values():
            self.assertIs(type(pair), tuple)

    def test_book_and_size(self):
        store = Store(book_with("lone", "put of"), 7)
        self.assertEqual([store.book(), store.size()], [book_with("put of", "lone"), 7])

    def test_by_names(self):
        store = small_store()
        self.assertEqual(store.rows(kind="house"), store.rows("house"))
        self.assertEqual(store.owner(column="of", number=9, kind="room"), 3)
        self.assertEqual(store.mark(number=10, kind="room"), "of")

    def test_what_is_returned_is_ones_own(self):
        store = small_store()
        ahead = told(store)
        store.rows("room")[1][1]["of"] = 0
        store.rows("room").clear()
        store.lists()[4] = None
        store.lists().clear()
        store.wrongs().append(("undue", "room", 9))
        self.assertEqual(told(store), ahead)
        rows, lists = store.rows("room"), store.lists()
        wanted = [list(rows), dict(lists)]
        store.turn("room", 9, "of", 0)
        store.do(0)
        self.assertEqual([rows, lists], wanted)


class Copies(Case):

    def test_equal(self):
        store = small_store()
        self.assertEqual(told(store.copy()), told(store))
        self.assertIs(type(store.copy()), Store)

    def test_the_copy_goes_on_alone(self):
        store = small_store()
        twin = store.copy()
        ahead = told(store)
        twin.put("house", 7)
        twin.turn("room", 9, "of", 0)
        twin.strike("room", 2)
        twin.do(4)
        twin.do(0)
        twin.look(1, "fell room", [2])
        self.assertEqual(told(store), ahead)
        self.assertNotEqual(store, twin)

    def test_the_store_goes_on_alone(self):
        store = small_store()
        twin = store.copy()
        ahead = told(twin)
        store.put("house", 7)
        store.turn("room", 9, "of", 0)
        store.strike("room", 2)
        store.do(4)
        store.do(0)
        store.look(1, "fell room", [2])
        self.assertEqual(told(twin), ahead)

    def test_used_numbers_are_copied(self):
        store = small_store("fresh")
        store.do(0)
        twin = store.copy()
        with self.assertRaises(ValueError):
            twin.put("room", 10)
        twin.put("room", 11)
        store.put("room", 11)

    def test_wrongs_are_copied(self):
        store = undue_store()
        twin = store.copy()
        self.assertEqual(twin.wrongs(), [("undue", "house", 0)])
        twin.put("house", 0)
        twin.strike("house", 0)
        for hand in (0, 1):
            twin.look(hand, "fell house", [0])
        twin.do(0)
        twin.put("house", 0)
        twin.do(1)
        self.assertEqual([len(store.wrongs()), len(twin.wrongs())], [1, 2])


class EqualStores(Case):

    def test_equal(self):
        self.assertIs(small_store() == small_store(), True)
        self.assertIs(small_store() != small_store(), False)
        self.assertIs(Store(book_with()) == Store(book_with()), True)

    def test_each_thing_counts(self):
        store = small_store()
        others = [small_store(size=3), small_store("put at")]
        others.extend([store.copy() for _ in range(7)])
        others[2].turn("room", 2, "of", 0)
        others[3].strike("room", 9)
        others[4].put("room", 0)
        others[5].stop(4)
        others[6].look(1, "spread of", [9])
        others[7].stop(0)
        others[8].put("house", 10)
        for other in others:
            self.assertEqual([store == other, store != other, other == store], [False, True, False])

    def test_numbers_of_the_lists_count_in_order(self):
        one, other = Store(book_with(), 2), Store(book_with(), 2)
        for store in (one, other):
            store.put("house", 0)
            store.put("house", 1)
            store.strike("house", 0)
            store.strike("house", 1)
        one.look(0, "fell house", [0, 1])
        other.look(0, "fell house", [1, 0])
        self.assertNotEqual(one, other)
        other.stop(0)
        other.look(0, "fell house", [0, 1])
        self.assertEqual(one, other)

    def test_books_of_the_same_checks(self):
        self.assertEqual(Store(book_with("lone", "fresh")), Store(book_with("fresh", "lone")))
        self.assertNotEqual(Store(book_with("lone")), Store(book_with()))

    def test_whatever_order_the_rows_came_in(self):
        one, other = Store(book_with()), Store(book_with())
        for number in (0, 1, 2):
            one.put("house", number)
            other.put("house", 2 - number)
        self.assertEqual(one, other)

    def test_whatever_numbers_were_used(self):
        one, other = Store(book_with()), Store(book_with())
        one.put("house", 0)
        one.strike("house", 0)
        one.look(0, "fell house", [0])
        one.do(0)
        self.assertEqual(one, other)

    def test_whatever_went_wrong(self):
        store = undue_store()
        self.assertEqual(store.wrongs(), [("undue", "house", 0)])
        self.assertEqual(store, Store(book_with()))

    def test_equal_to_nothing_else(self):
        store = small_store()
        for thing in odd_things() + [store.book(), store.rows("room"), store.lists(), 0]:
            self.assertEqual([store == thing, thing == store, store != thing], [False, False, True])


if __name__ == "__main__":
    unittest.main()
