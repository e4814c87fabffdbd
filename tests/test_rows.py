"""Promises [6] to [9]: stores, and the deeds at single rows."""

import unittest

from longstrike.books import Book
from longstrike.errors import (
    BadNumber, NoRow, NotOpen, OwnOwner, Refused, Taken, UnknownColumn, UnknownKind, Used,
)
from longstrike.stores import Store
from tests.cases import Case, odd_things

KINDS = [("house", True), ("room", True), ("key", False)]
COLUMNS = [("of", "room", "house", "fall"), ("by", "room", "room", "clear"), ("to", "key", "room", "fall")]


def book_with(*checks):
    return Book(KINDS, COLUMNS, checks)


def small_store(*checks):
    """Houses 0 and 1, of which 1 is marked; rooms 4 (marked, of 0), 5 (of 0), 6 (of 1)."""
    store = Store(book_with(*checks), 3)
    store.put("house", 0)
    store.put("house", 1)
    store.put("room", 4, {"of": 0})
    store.put("room", 5, {"of": 0})
    store.put("room", 6, {"of": 1})
    store.strike("house", 1)
    store.strike("room", 4)
    return store


def fell(store, kind, number):
    store.look(99, "fell " + kind, [number])
    store.do(99)


class Stores(Case):
    """[6]"""

    def test_without_rows(self):
        store = Store(book_with())
        self.assertEqual([store.rows(kind) for kind, _ in KINDS], [[], [], []])
        self.assertEqual([store.size(), store.book() == book_with(), store.lists(), store.wrongs()], [1, True, {}, []])

    def test_sizes(self):
        for size in (1, 2, 7, 10 ** 29):
            self.assertEqual(Store(book_with(), size).size(), size)

    def test_bad_sizes(self):
        for thing in odd_things() + [0, -1, "1", (1,)]:
            self.fails(BadNumber(thing), Store, book_with(), thing)

    def test_by_names(self):
        self.assertEqual(Store(size=3, book=book_with()), Store(book_with(), 3))
        self.assertEqual(Store(book=book_with()).size(), 1)

    def test_numbers_of_any_height(self):
        store = Store(book_with())
        for number in (0, 1, 10 ** 30 - 1):
            self.assertIsNone(store.put("house", number))
            self.assertIsNone(store.mark("house", number))

    def test_an_owner_may_be_gone(self):
        store = small_store()
        fell(store, "house", 1)
        self.assertEqual(store.rows("room")[2], (6, {"of": 1, "by": None}, None))
        self.assertEqual(store.owner("room", 6, "of"), 1)


class Put(Case):
    """[7]"""

    def test_rows(self):
        store = small_store()
        self.assertIsNone(store.put("key", 0))
        self.assertIsNone(store.put("room", 0, {"by": 5, "of": 0}))
        self.assertIsNone(store.put("room", 1, {"of": None, "by": 4}))
        self.assertEqual(store.rows("key"), [(0, {"to": None}, None)])
        wanted = [(0, {"of": 0, "by": 5}, None), (1, {"of": None, "by": 4}, None)]
        self.assertEqual(store.rows("room")[:2], wanted)
        self.assertEqual([list(row[1]) for row in store.rows("room")], [["of", "by"]] * 5)

    def test_lists_of_pairs(self):
        for owners in ([("by", 5), ("of", 0)], (["of", 0], ["by", 5]), (("of", 0), ("by", 5)), {"of": 0, "by": 5}):
            store = small_store()
            store.put("room", 0, owners)
            self.assertEqual(store.rows("room")[0], (0, {"of": 0, "by": 5}, None))
        for owners in ((), [], {}, {"of": None}, [("of", None), ("by", None)]):
            store.put("key", 0)
            store.put("room", 1, owners)
            self.assertEqual(store.rows("room")[1], (1, {"of": None, "by": None}, None))
            store = small_store()
            store.put("room", 0)

    def test_a_put_row_has_no_mark(self):
        store = small_store()
        store.put("key", 3, {"to": 4})
        self.assertIsNone(store.mark("key", 3))

    def test_the_same_number_in_two_kinds(self):
        store = small_store()
        store.put("key", 4, {"to": 5})
        self.assertEqual([store.mark("room", 4), store.mark("key", 4)], ["strike", None])

    def test_unknown_kind(self):
        store = small_store()
        for thing in odd_things() + ["of", "Room"]:
            self.refuses(store, UnknownKind(thing), store.put, thing, -1, {"none": 7})

    def test_bad_number(self):
        store = small_store()
        for thing in odd_things() + ["4", 10 ** 30]:
            self.refuses(store, BadNumber(thing), store.put, "room", thing, {"none": 7})

    def test_taken(self):
        store = small_store("fresh")
        self.refuses(store, Taken("room", 4), store.put, "room", 4, {"none": 7})
        self.refuses(store, Taken("house", 0), store.put, "house", 0)

    def test_used(self):
        store = small_store("fresh")
        fell(store, "room", 4)
        self.refuses(store, Used("room", 4), store.put, "room", 4, {"none": 7})
        self.refuses(store, Used("room", 4), store.put, "room", 4)
        store.put("key", 4)
        store.put("room", 3)
        self.assertEqual([store.mark("key", 4), store.mark("room", 3)], [None, None])

    def test_used_without_fresh(self):
        store = small_store("lone")
        fell(store, "room", 4)
        store.put("room", 4)
        self.assertEqual(store.rows("room")[0], (4, {"of": None, "by": None}, None))

    def test_a_put_that_raises_uses_no_number(self):
        store = small_store("fresh", "put of")
        self.fails(UnknownColumn("none"), store.put, "room", 0, {"none": 7})
        self.fails(NoRow("house", 7), store.put, "room", 0, {"of": 7})
        self.fails(Refused("put of"), store.put, "room", 0, {"of": 1})
        store.put("room", 0)
        self.assertIsNone(store.mark("room", 0))

    def test_unknown_column(self):
        store = small_store()
        for thing in ("to", "none", "", "Of", "strike", "of ", "room", "abcdefghij"):
            self.refuses(store, UnknownColumn(thing), store.put, "room", 0, {"of": 7, thing: 7})
            self.refuses(store, UnknownColumn(thing), store.put, "room", 0, [(thing, None), ("of", 7)])

    def test_unknown_columns_that_are_no_strings(self):
        store = small_store()
        for thing in odd_things():
            if not isinstance(thing, str):
                self.refuses(store, UnknownColumn(thing), store.put, "room", 0, [("of", 7), (thing, None), ("a", 0)])

    def test_unknown_column_is_the_first_ascending(self):
        store = small_store()
        owners = {"zz": 0, "of": 0, "b": None, "a": 7, "aa": 7, "by": 7}
        self.refuses(store, UnknownColumn("a"), store.put, "room", 0, owners)
        self.refuses(store, UnknownColumn("a"), store.put, "room", 0, list(owners.items()))
        self.refuses(store, UnknownColumn("Z"), store.put, "room", 0, {"a": 7, "Z": None})

    def test_no_row(self):
        store = small_store("put of", "put by")
        for thing in odd_things() + [7, 4, "0"]:
            if thing is not None:
                self.refuses(store, NoRow("house", thing), store.put, "room", 0, {"of": thing})
        for thing in (0, 1, True, [4]):
            self.refuses(store, NoRow("room", thing), store.put, "room", 7, {"by": thing})
        self.refuses(store, NoRow("room", 0), store.put, "room", 0, {"by": 0})
        fell(store, "house", 1)
        self.refuses(store, NoRow("house", 1), store.put, "room", 0, {"of": 1})

    def test_refused(self):
        store = small_store("put of")
        self.refuses(store, Refused("put of"), store.put, "room", 0, {"of": 1})
        store.put("room", 0, {"of": 0, "by": 4})
        self.assertEqual(store.rows("room")[0], (0, {"of": 0, "by": 4}, None))

    def test_without_the_check(self):
        store = small_store("turn of", "keep of", "hold of", "again of", "put by", "bare house", "calm house")
        store.put("room", 0, {"of": 1})
        self.assertEqual(store.rows("room")[0], (0, {"of": 1, "by": None}, None))
        self.refuses(store, Refused("put by"), store.put, "room", 1, {"by": 4})

    def test_put_below_a_row_that_was_marked_as_it_fell(self):
        store = small_store("put to")
        store.look(0, "spread of", [6])
        store.do(0)
        self.refuses(store, Refused("put to"), store.put, "key", 0, {"to": 6})

    def test_column_by_column_in_the_order_of_the_book(self):
        store = small_store("put of", "put by")
        self.refuses(store, NoRow("house", 7), store.put, "room", 0, [("by", 9), ("of", 7)])
        self.refuses(store, Refused("put of"), store.put, "room", 0, [("by", 9), ("of", 1)])
        self.refuses(store, NoRow("room", 9), store.put, "room", 0, [("by", 9), ("of", 0)])
        self.refuses(store, Refused("put by"), store.put, "room", 0, [("by", 4), ("of", None)])

    def test_changed_behind(self):
        store = small_store()
        owners = {"of": 0}
        store.put("room", 0, owners)
        owners["of"] = 1
        owners["by"] = 5
        pairs = [["of", 0]]
        store.put("room", 1, pairs)
        pairs[0][1] = 1
        pairs.append(["by", 5])
        self.assertEqual(store.rows("room")[0], (0, {"of": 0, "by": None}, None))
        self.assertEqual(store.rows("room")[1], (1, {"of": 0, "by": None}, None))

    def test_what_is_given_stays(self):
        store = small_store()
        owners = {"by": 5}
        store.put("room", 0, owners)
        store.turn("room", 0, "of", 0)
        self.assertEqual(owners, {"by": 5})

    def test_by_names(self):
        store = small_store()
        store.put(owners={"of": 0}, number=9, kind="room")
        store.put(number=8, kind="room")
        self.assertEqual([store.owner("room", 9, "of"), store.owner("room", 8, "of")], [0, None])


class Turn(Case):
    """[8]"""

    def test_owners(self):
        store = small_store()
        for owner in (1, 0, 0, None, None, 1):
            self.assertIsNone(store.turn("room", 5, "of", owner))
            self.assertEqual(store.owner("room", 5, "of"), owner)
        self.assertIsNone(store.turn("room", 5, "by", 6))
        self.assertEqual(store.rows("room")[1], (5, {"of": 1, "by": 6}, None))
        self.assertEqual(store.rows("room")[0], (4, {"of": 0, "by": None}, "strike"))

    def test_marks_stay(self):
        store = small_store()
        store.turn("room", 4, "of", 1)
        self.assertEqual(store.rows("room")[0], (4, {"of": 1, "by": None}, "strike"))

    def test_unknown_kind(self):
        store = small_store()
        for thing in odd_things() + ["of"]:
            self.refuses(store, UnknownKind(thing), store.turn, thing, -1, "none", 7)

    def test_no_row(self):
        store = small_store()
        for thing in odd_things() + [0, 7, "4"]:
            self.refuses(store, NoRow("room", thing), store.turn, "room", thing, "none", 7)

    def test_unknown_column(self):
        store = small_store()
        for thing in odd_things() + ["to", "none", "room"]:
            self.refuses(store, UnknownColumn(thing), store.turn, "room", 5, thing, 7)

    def test_no_owner(self):
        store = small_store("hold of", "keep of", "turn of")
        for thing in odd_things() + [4, 7, "0"]:
            if thing is not None:
                self.refuses(store, NoRow("house", thing), store.turn, "room", 4, "of", thing)

    def test_own_owner(self):
        store = small_store("hold by", "turn by")
        self.refuses(store, OwnOwner("by"), store.turn, "room", 4, "by", 4)
        self.refuses(store, OwnOwner("by"), store.turn, "room", 5, "by", 5)

    def test_the_same_number_of_another_kind(self):
        store = small_store()
        store.put("house", 5)
        store.turn("room", 5, "of", 5)
        self.assertEqual(store.owner("room", 5, "of"), 5)

    def test_hold(self):
        store = small_store("hold of")
        for owner in (None, 0, 1):
            self.refuses(store, Refused("hold of"), store.turn, "room", 4, "of", owner)
        store.turn("room", 5, "of", 1)
        store.turn("room", 4, "by", 5)
        store.look(0, "spread of", [6])
        store.do(0)
        self.refuses(store, Refused("hold of"), store.turn, "room", 6, "of", 0)

    def test_keep(self):
        store = small_store("keep of")
        for owner in (None, 0, 1):
            self.refuses(store, Refused("keep of"), store.turn, "room", 6, "of", owner)
        store.turn("room", 6, "by", 4)
        store.turn("room", 6, "by", 5)
        store.turn("room", 5, "of", 1)
        self.refuses(store, Refused("keep of"), store.turn, "room", 5, "of", 0)
        fell(store, "house", 1)
        for owner in (None, 0):
            self.refuses(store, Refused("keep of"), store.turn, "room", 6, "of", owner)
        store.turn("room", 4, "of", None)
        store.turn("room", 4, "of", 0)
        self.assertEqual(store.owner("room", 4, "of"), 0)

    def test_turn(self):
        store = small_store("turn of")
        self.refuses(store, Refused("turn of"), store.turn, "room", 5, "of", 1)
        self.refuses(store, Refused("turn of"), store.turn, "room", 6, "of", 1)
        store.turn("room", 5, "of", None)
        store.turn("room", 6, "of", 0)
        store.turn("room", 5, "by", 4)
        self.assertEqual([store.owner("room", number, "of") for number in (5, 6)], [None, 0])

    def test_without_the_checks(self):
        store = small_store("put of", "again of", "hold by", "keep by", "turn by", "lone", "fresh")
        store.turn("room", 4, "of", 1)
        store.turn("room", 4, "of", 1)
        store.turn("room", 6, "of", None)
        store.turn("room", 6, "of", 1)
        fell(store, "house", 1)
        store.turn("room", 6, "of", 0)
        self.assertEqual([store.owner("room", number, "of") for number in (4, 6)], [1, 0])

    def test_order_of_the_checks(self):
        store = small_store("hold of", "keep of", "turn of")
        store.strike("room", 6)
        self.refuses(store, Refused("hold of"), store.turn, "room", 6, "of", 1)
        store = small_store("keep of", "turn of")
        self.refuses(store, Refused("keep of"), store.turn, "room", 6, "of", 1)
        store = small_store("hold of", "turn of")
        self.refuses(store, Refused("turn of"), store.turn, "room", 6, "of", 1)

    def test_by_names(self):
        store = small_store()
        store.turn(owner=None, column="of", number=5, kind="room")
        self.assertIsNone(store.owner("room", 5, "of"))


class Strike(Case):
    """[9]"""

    def test_marks(self):
        store = small_store()
        self.assertIsNone(store.strike("room", 5))
        self.assertEqual(store.rows("room")[1], (5, {"of": 0, "by": None}, "strike"))
        self.assertIsNone(store.strike("room", 5))
        self.assertEqual(store.mark("room", 5), "strike")

    def test_whatever_the_mark_was(self):
        store = small_store()
        store.look(0, "spread of", [6])
        store.do(0)
        self.assertEqual(store.mark("room", 6), "of")
        store.strike("room", 6)
        self.assertEqual(store.mark("room", 6), "strike")

    def test_errors_in_order(self):
        store = small_store()
        store.put("key", 2)
        for thing in odd_things() + ["of"]:
            self.refuses(store, UnknownKind(thing), store.strike, thing, -1)
        for thing in odd_things() + [7, 4]:
            self.refuses(store, NoRow("key", thing), store.strike, "key", thing)
            self.refuses(store, NoRow("house", thing), store.strike, "house", thing)
        self.refuses(store, NotOpen("key"), store.strike, "key", 2)

    def test_whatever_the_checks(self):
        book = book_with()
        store = small_store(*book.menu())
        store.strike("room", 5)
        self.assertEqual(store.mark("room", 5), "strike")

    def test_by_names(self):
        store = small_store()
        store.strike(number=0, kind="house")
        self.assertEqual(store.mark("house", 0), "strike")


if __name__ == "__main__":
    unittest.main()
