"""Promises [10] and [11]: pieces, and the hands that do them."""

import unittest

from longstrike.books import Book
from longstrike.errors import BadList, BadNumber, BadPiece, Busy, Idle, NoFit, Refused
from longstrike.stores import Store
from tests.cases import Case, odd_things, told

KINDS = [("b", True), ("a", True)]
COLUMNS = [("z", "a", "b", "clear"), ("y", "a", "b", "fall"), ("x", "a", "a", "clear"), ("w", "b", "a", "fall")]


def store_with(*checks, size=9):
    return Store(Book(KINDS, COLUMNS, checks), size)


def put_all(store, kind, rows):
    for number, owners in rows:
        store.put(kind, number, owners)


def strike_all(store, kind, numbers):
    for number in numbers:
        store.strike(kind, number)


def work(store, piece, numbers, hand=77):
    store.look(hand, piece, numbers)
    return store.do(hand)


def marks(store, kind):
    return {number: mark for number, owners, mark in store.rows(kind)}


class Pieces(Case):
    """[10], pieces"""

    def test_order(self):
        wanted = ["spread y", "spread w", "clear z", "clear x", "fell b", "fell a"]
        self.same_list(store_with().pieces(), wanted)
        self.same_list(store_with(*store_with().book().menu()).pieces(), wanted)

    def test_without_columns(self):
        self.assertEqual(Store(Book([("a", False)])).pieces(), ["fell a"])

    def test_bad_pieces(self):
        store = store_with()
        for thing in odd_things() + ["spread z", "clear y", "fell y", "spread b", "fell", "y", "Fell b", "fell b "]:
            self.refuses(store, BadPiece(thing), store.fits, thing)
            self.refuses(store, BadPiece(thing), store.look, 0, thing, None)

    def test_by_name(self):
        self.assertEqual(store_with().fits(piece="fell a"), [])


class Fits(Case):
    """[10], what fits"""

    def filled(self, *checks):
        """Of each way how a row and its owner can stand, one row a by the columns y and z."""
        store = store_with(*checks)
        put_all(store, "b", [(0, ()), (1, ()), (2, ())])
        put_all(store, "a", [(9, {"y": 1}), (8, {"y": 0}), (7, {"y": 2}), (6, ()), (5, {"y": 1}), (10, {"y": 1})])
        put_all(store, "a", [(19, {"z": 1}), (18, {"z": 0}), (17, {"z": 2}), (16, ()), (15, {"z": 1}), (20, {"z": 1})])
        strike_all(store, "b", [1, 2])
        work(store, "fell b", [2])
        strike_all(store, "a", [5, 15])
        return store

    def test_spread(self):
        store = self.filled()
        self.same_list(store.fits("spread y"), [9, 10])
        work(store, "spread y", [9])
        self.same_list(store.fits("spread y"), [10])
        self.assertEqual(store.fits("spread w"), [])

    def test_spread_to_a_row_without_owner(self):
        store = store_with()
        put_all(store, "a", [(0, ())])
        self.assertEqual([store.fits(piece) for piece in store.pieces()], [[]] * 6)

    def test_clear(self):
        store = self.filled()
        self.same_list(store.fits("clear z"), [15, 19, 20])
        self.assertEqual(store.fits("clear x"), [])
        work(store, "clear z", [15, 20])
        self.same_list(store.fits("clear z"), [19])

    def test_by_each_column_alone(self):
        store = store_with()
        put_all(store, "b", [(0, ())])
        put_all(store, "a", [(0, ()), (1, {"x": 0}), (2, {"y": 0}), (3, {"z": 0})])
        put_all(store, "b", [(1, {"w": 0}), (2, {"w": 1})])
        strike_all(store, "a", [0])
        self.assertEqual([store.fits(piece) for piece in store.pieces()], [[], [1], [], [1], [], [0]])
        strike_all(store, "b", [0])
        self.assertEqual([store.fits(piece) for piece in store.pieces()], [[2], [1], [3], [1], [0], [0]])

    def test_an_owner_that_was_marked_as_it_fell(self):
        store = store_with()
        put_all(store, "b", [(0, ())])
        put_all(store, "a", [(0, {"y": 0})])
        put_all(store, "b", [(1, {"w": 0})])
        strike_all(store, "b", [0])
        work(store, "spread y", [0])
        self.assertEqual(store.fits("spread w"), [1])

    def test_fell(self):
        for checks in ([], ["bare a", "calm a", "again a", "again b", "lone", "put y"]):
            store = self.filled(*checks)
            self.same_list(store.fits("fell a"), [5, 15])
        self.same_list(self.filled().fits("fell b"), [1])

    def referred(self, *checks):
        """Marked rows b: 0 of nobody, 1 of an unmarked row by y, 2 of a marked one, 3 of both, 4 by z, 5 by z, marked."""
        store = store_with(*checks)
        put_all(store, "b", [(number, ()) for number in range(7)])
        put_all(store, "a", [(0, {"y": 1}), (1, {"y": 2}), (2, {"y": 3}), (3, {"y": 3}), (4, {"z": 4}), (5, {"z": 5})])
        strike_all(store, "a", [1, 2, 5])
        strike_all(store, "b", [5, 4, 3, 2, 1, 0])
        return store

    def test_bare_and_calm(self):
        others = ["bare a", "calm a", "again b", "again a", "keep y"]
        self.assertEqual(self.referred(*others).fits("fell b"), [0, 1, 2, 3, 4, 5])
        self.same_list(self.referred("bare b").fits("fell b"), [0])
        self.same_list(self.referred("calm b").fits("fell b"), [0, 2, 5])
        self.same_list(self.referred("bare b", "calm b").fits("fell b"), [0])

    def test_rows_of_the_same_kind_and_of_others(self):
        for check, wanted in (("bare a", [3]), ("calm a", [2, 3])):
            store = store_with(check)
            put_all(store, "a", [(0, ()), (2, ()), (1, {"x": 0}), (3, {"x": 2})])
            put_all(store, "b", [(5, {"w": 1})])
            strike_all(store, "a", [0, 1, 2, 3])
            strike_all(store, "a", [1])
            store.turn("a", 1, "x", None)
            store.put("b", 6, {"w": 0})
            self.assertEqual(store.fits("fell a"), wanted)

    def test_a_number_is_of_one_kind(self):
        store = store_with("bare b", "bare a")
        put_all(store, "a", [(1, ()), (2, {"x": 1})])
        put_all(store, "b", [(1, ()), (2, ())])
        strike_all(store, "a", [1, 2])
        strike_all(store, "b", [1, 2])
        self.assertEqual([store.fits("fell b"), store.fits("fell a")], [[1, 2], [2]])

    def test_a_call_changes_nothing(self):
        store = self.referred("bare b")
        ahead = told(store)
        for piece in store.pieces():
            store.fits(piece).append(7)
        store.pieces().clear()
        self.assertEqual(told(store), ahead)
        self.assertEqual([store.fits("fell b"), len(store.pieces())], [[0], 6])


class Look(Case):
    """[11], look"""

    def filled(self, *checks, size=3):
        store = store_with(*checks, size=size)
        put_all(store, "b", [(number, ()) for number in range(6)])
        strike_all(store, "b", [1, 2, 3, 4])
        return store

    def test_lists(self):
        store = self.filled()
        self.assertIsNone(store.look(0, "fell b", [3, 1]))
        self.assertIsNone(store.look(7, "fell b", (1, 3, 2)))
        self.assertEqual(store.lists(), {0: ("fell b", (3, 1)), 7: ("fell b", (1, 3, 2))})
        self.assertEqual(marks(store, "b")[3], "strike")

    def test_bad_number(self):
        store = self.filled("lone")
        store.look(5, "fell b", [1])
        for thing in odd_things() + ["0"]:
            self.refuses(store, BadNumber(thing), store.look, thing, "none", None)

    def test_busy(self):
        store = self.filled("lone")
        store.look(5, "fell b", [1])
        self.refuses(store, Busy(5), store.look, 5, "none", None)
        self.refuses(store, Busy(5), store.look, 5, "fell b", [1])

    def test_lone(self):
        store = self.filled("lone")
        store.look(5, "fell b", [1])
        self.refuses(store, Refused("lone"), store.look, 0, "none", None)
        self.refuses(store, Refused("lone"), store.look, 0, "fell b", [2])
        store.stop(5)
        store.look(0, "fell b", [2])
        self.assertEqual(store.lists(), {0: ("fell b", (2,))})
        store.do(0)
        store.look(5, "fell b", [1])
        self.assertEqual(store.lists(), {5: ("fell b", (1,))})

    def test_without_lone(self):
        store = self.filled("fresh", "again b")
        for hand in range(5):
            store.look(hand, "fell b", [1])
        self.assertEqual(len(store.lists()), 5)

    def test_bad_list(self):
        store = self.filled()
        bad = [[], (), [1, 1], [1, 2, 1], [1, 2, 3, 4], [0, 0], [True], [1, True], [-1], ["1"], [[1]], [None], [0, -1]]
        for thing in [thing for thing in odd_things() if thing not in ([0], (0,))] + bad + [1, "12", {1: 2}]:
            self.refuses(store, BadList(thing), store.look, 0, "fell b", thing)

    def test_greatest_lists(self):
        store = self.filled(size=1)
        self.refuses(store, BadList([1, 2]), store.look, 0, "fell b", [1, 2])
        store.look(0, "fell b", [1])
        store = self.filled(size=10 ** 20)
        store.look(0, "fell b", [4, 3, 2, 1])

    def test_no_fit(self):
        store = self.filled()
        self.refuses(store, NoFit(0), store.look, 0, "fell b", [1, 0, 5])
        self.refuses(store, NoFit(5), store.look, 0, "fell b", [1, 5, 0])
        self.refuses(store, NoFit(7), store.look, 0, "fell b", [7])
        self.refuses(store, NoFit(1), store.look, 0, "spread y", [1])
        self.refuses(store, NoFit(0), store.look, 0, "clear z", [0])
        store.put("a", 0, {"y": 1})
        self.refuses(store, NoFit(1), store.look, 0, "spread y", [1, 0])
        store.look(0, "spread y", [0])

    def test_changed_behind(self):
        store = self.filled()
        numbers = [1, 2]
        store.look(0, "fell b", numbers)
        numbers[0] = 3
        numbers.append(4)
        self.assertEqual(store.lists(), {0: ("fell b", (1, 2))})
        store.do(0)
        self.assertEqual(numbers, [3, 2, 4])

    def test_by_names(self):
        store = self.filled()
        store.look(numbers=[2], piece="fell b", hand=3)
        self.assertEqual(store.lists(), {3: ("fell b", (2,))})
        self.assertEqual(store.do(hand=3), [2])
        store.look(piece="fell b", hand=4, numbers=[1])
        store.stop(hand=4)
        self.assertEqual(store.lists(), {})


class DoAndStop(Case):
    """[11], do and stop"""

    def filled(self, *checks):
        store = store_with(*checks)
        put_all(store, "b", [(0, ()), (1, ()), (2, ())])
        rows = [(number, {"y": 0, "z": 0}) for number in range(6)]
        put_all(store, "a", rows)
        strike_all(store, "b", [0])
        return store

    def test_idle(self):
        store = self.filled()
        store.look(0, "spread y", [1])
        for call in (store.do, store.stop):
            for thing in odd_things() + ["0"]:
                self.refuses(store, BadNumber(thing), call, thing)
            for hand in (1, 7):
                self.refuses(store, Idle(hand), call, hand)

    def test_stop(self):
        store = self.filled()
        store.look(0, "spread y", [1])
        store.look(1, "spread y", [2, 1])
        ahead = told(store)[0]
        self.assertIsNone(store.stop(0))
        self.assertEqual([store.lists(), told(store)[0]], [{1: ("spread y", (2, 1))}, ahead])
        self.refuses(store, Idle(0), store.do, 0)
        store.look(0, "spread y", [3])
        self.assertEqual(store.lists()[0], ("spread y", (3,)))

    def test_the_list_is_gone(self):
        store = self.filled()
        store.look(0, "spread y", [1])
        store.look(1, "clear z", [1])
        store.do(0)
        self.assertEqual(store.lists(), {1: ("clear z", (1,))})
        self.refuses(store, Idle(0), store.do, 0)
        self.refuses(store, Idle(0), store.stop, 0)

    def test_spread(self):
        store = self.filled()
        self.same_list(work(store, "spread y", [4, 1, 3]), [4, 1, 3])
        self.assertEqual(marks(store, "a"), {0: None, 1: "y", 2: None, 3: "y", 4: "y", 5: None})
        self.assertEqual(store.owner("a", 4, "y"), 0)

    def test_clear(self):
        store = self.filled()
        strike_all(store, "a", [3])
        self.same_list(work(store, "clear z", [4, 3]), [4, 3])
        self.assertEqual([store.owner("a", number, "z") for number in range(6)], [0, 0, 0, None, None, 0])
        self.assertEqual([store.owner("a", number, "y") for number in (3, 4)], [0, 0])
        self.assertEqual([store.mark("a", 3), store.mark("a", 4)], ["strike", None])

    def test_fell(self):
        store = self.filled()
        work(store, "spread y", [4, 2])
        self.same_list(work(store, "fell a", [4, 2]), [4, 2])
        self.assertEqual(list(marks(store, "a")), [0, 1, 3, 5])
        self.same_list(work(store, "fell b", [0]), [0])
        self.assertEqual(list(marks(store, "b")), [1, 2])
        self.assertEqual(store.owner("a", 1, "y"), 0)

    def test_spread_to_rows_that_do_not_fit_any_more(self):
        def tangled(*checks):
            store = self.filled(*checks)
            store.look(0, "spread y", [5, 4, 3, 2, 1])
            store.turn("a", 4, "y", 1)
            store.turn("a", 3, "y", None)
            strike_all(store, "a", [2, 1])
            work(store, "fell a", [1])
            return store
        store = tangled("again z", "again a", "again b")
        self.same_list(store.do(0), [5, 4, 3])
        self.assertEqual(marks(store, "a"), {0: None, 2: "strike", 3: "y", 4: "y", 5: "y"})
        store = tangled("again y")
        self.same_list(store.do(0), [5])
        self.assertEqual(marks(store, "a"), {0: None, 2: "strike", 3: None, 4: None, 5: "y"})

    def test_spread_with_an_owner_that_is_gone(self):
        for checks, wanted in (([], [1]), (["again y"], [])):
            store = self.filled(*checks)
            store.look(0, "spread y", [1])
            work(store, "fell b", [0])
            self.same_list(store.do(0), wanted)

    def test_clear_of_rows_that_do_not_fit_any_more(self):
        def tangled(*checks):
            store = self.filled(*checks)
            store.look(0, "clear z", [5, 4, 3, 2])
            store.turn("a", 4, "z", 1)
            store.turn("a", 3, "z", None)
            strike_all(store, "a", [2])
            work(store, "fell a", [2])
            return store
        store = tangled("again y", "again a", "again b")
        self.same_list(store.do(0), [5, 4])
        self.assertEqual([store.owner("a", number, "z") for number in (3, 4, 5)], [None, None, None])
        store = tangled("again z")
        self.same_list(store.do(0), [5])
        self.assertEqual([store.owner("a", number, "z") for number in (3, 4, 5)], [None, 1, None])

    def test_clear_with_an_owner_that_is_gone(self):
        for checks, wanted in (([], [1]), (["again z"], [])):
            store = self.filled(*checks)
            store.look(0, "clear z", [1])
            work(store, "fell b", [0])
            self.same_list(store.do(0), wanted)

    def test_fell_of_rows_that_do_not_fit_any_more(self):
        def tangled(*checks):
            store = self.filled(*checks)
            strike_all(store, "a", [5, 4, 3])
            store.look(0, "fell a", [5, 4, 3])
            work(store, "fell a", [4, 3])
            store.put("a", 4)
            return store
        store = tangled("again y", "again z", "again b", "bare a", "calm a")
        self.same_list(store.do(0), [5, 4])
        self.assertEqual(list(marks(store, "a")), [0, 1, 2])
        store = tangled("again a")
        self.same_list(store.do(0), [5])
        self.assertEqual(list(marks(store, "a")), [0, 1, 2, 4])

    def test_a_second_look_with_bare_and_calm(self):
        wanted = {"": [2, 1, 0], "again": [2, 1, 0], "bare": [2, 1, 0], "calm": [2, 1, 0], "again bare": [0],
                  "again calm": [2, 0]}
        for words, changed in wanted.items():
            store = store_with(*[word + " b" for word in words.split()])
            put_all(store, "b", [(0, ()), (1, ()), (2, ())])
            strike_all(store, "b", [0, 1, 2])
            store.look(0, "fell b", [2, 1, 0])
            put_all(store, "a", [(1, {"y": 1}), (2, {"z": 2})])
            strike_all(store, "a", [2])
            self.same_list(store.do(0), changed)

    def test_all_rows_are_looked_at_ahead_of_the_do(self):
        for check in ("bare a", "calm a"):
            store = store_with(check, "again a")
            put_all(store, "a", [(0, ()), (1, ())])
            strike_all(store, "a", [0, 1])
            store.look(0, "fell a", [0, 1])
            store.put("a", 2)
            if check == "bare a":
                store.turn("a", 0, "x", 1)
            else:
                store.turn("a", 2, "x", 1)
            self.same_list(store.do(0), [0])
            self.assertEqual(list(marks(store, "a")), [1, 2])

    def test_spread_along_rows_of_one_kind_takes_one_step(self):
        book = Book([("a", True)], [("up", "a", "a", "fall")], ["again up"])
        store = Store(book, 3)
        put_all(store, "a", [(0, ()), (1, {"up": 0}), (2, {"up": 1})])
        strike_all(store, "a", [0, 1])
        store.look(0, "spread up", [2])
        store.stop(0)
        work(store, "fell a", [1])
        store.put("a", 1, {"up": 0})
        self.assertEqual(store.fits("spread up"), [1])
        store.strike("a", 1)
        store.look(0, "spread up", [2])
        work(store, "fell a", [1])
        store.put("a", 1, {"up": 0})
        store.look(1, "spread up", [1])
        store.turn("a", 2, "up", 1)
        self.assertEqual(store.fits("spread up"), [1])
        self.same_list(store.do(1), [1])
        self.same_list(store.do(0), [2])
        self.assertEqual(marks(store, "a"), {0: "strike", 1: "up", 2: "up"})

    def test_spread_looks_at_all_rows_ahead_of_the_do(self):
        store = Store(Book([("a", True)], [("up", "a", "a", "fall")], ["again up"]), 3)
        put_all(store, "a", [(0, ()), (1, {"up": 0}), (2, {"up": 0})])
        strike_all(store, "a", [0])
        store.look(0, "spread up", [1, 2])
        store.turn("a", 2, "up", 1)
        self.same_list(store.do(0), [1])
        self.assertEqual(marks(store, "a"), {0: "strike", 1: "up", 2: None})

    def test_nothing_is_left(self):
        store = self.filled()
        strike_all(store, "a", [1])
        store.look(0, "fell a", [1])
        work(store, "fell a", [1])
        self.same_list(store.do(0), [])

    def test_a_number_that_came_again(self):
        store = self.filled()
        store.look(0, "spread y", [1])
        store.look(1, "clear z", [1])
        strike_all(store, "a", [1])
        work(store, "fell a", [1])
        store.put("a", 1, {"z": 2})
        self.same_list(store.do(1), [1])
        self.same_list(store.do(0), [1])
        self.assertEqual(store.rows("a")[1], (1, {"z": None, "y": None, "x": None}, "y"))

    def test_fresh_knows_what_was_felled(self):
        store = self.filled("fresh")
        work(store, "spread y", [4])
        work(store, "fell a", [4])
        with self.assertRaises(ValueError):
            store.put("a", 4)

    def test_the_list_that_is_returned_is_ones_own(self):
        store = self.filled()
        store.look(0, "spread y", [1, 2])
        store.look(1, "spread y", [1, 2])
        store.do(0).append(3)
        self.assertEqual(store.lists(), {1: ("spread y", (1, 2))})


if __name__ == "__main__":
    unittest.main()
