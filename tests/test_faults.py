"""Promises [13] and [14]: what went wrong, and the faults that stand."""

import unittest

from longstrike.books import Book
from longstrike.errors import UnknownColumn
from longstrike.stores import Store
from tests.cases import Case, odd_things

KINDS = [("b", True), ("a", True)]
COLUMNS = [("y", "a", "b", "fall"), ("x", "a", "a", "fall"), ("z", "a", "b", "clear")]


def filled(*checks, size=9):
    """Rows b 0 to 4, of which 0 is marked."""
    store = Store(Book(KINDS, COLUMNS, checks), size)
    for number in range(5):
        store.put("b", number)
    store.strike("b", 0)
    return store


def work(store, piece, numbers, hand=77):
    store.look(hand, piece, numbers)
    return store.do(hand)


class Spoilt(Case):

    def test_an_owner_without_a_mark(self):
        store = filled()
        for number in (0, 1, 2):
            store.put("a", number, {"z": 0})
        store.look(0, "clear z", [2, 0, 1])
        store.turn("a", 2, "z", 1)
        store.turn("a", 1, "z", 3)
        self.same_list(store.do(0), [2, 0, 1])
        self.same_list(store.wrongs(), [("spoilt", "z", 2), ("spoilt", "z", 1)])

    def test_an_owner_of_the_same_number_that_came_again(self):
        store = filled()
        store.put("a", 7, {"z": 0})
        store.look(0, "clear z", [7])
        work(store, "fell b", [0])
        store.put("b", 0)
        self.assertEqual(store.do(0), [7])
        self.assertEqual(store.wrongs(), [("spoilt", "z", 7)])

    def test_none_if_the_owner_is_marked(self):
        store = filled()
        store.put("a", 0, {"z": 0})
        store.look(0, "clear z", [0])
        store.strike("b", 1)
        store.turn("a", 0, "z", 1)
        self.assertEqual([store.do(0), store.wrongs()], [[0], []])

    def test_none_if_the_owner_is_gone(self):
        store = filled()
        store.put("a", 0, {"z": 0})
        store.look(0, "clear z", [0])
        work(store, "fell b", [0])
        self.assertEqual([store.do(0), store.wrongs()], [[0], []])

    def test_none_if_there_is_no_owner(self):
        store = filled()
        store.put("a", 0, {"z": 0})
        store.look(0, "clear z", [0])
        store.turn("a", 0, "z", None)
        self.assertEqual([store.do(0), store.wrongs()], [[], []])

    def test_none_if_it_is_not_done(self):
        store = filled("again z")
        store.put("a", 0, {"z": 0})
        store.look(0, "clear z", [0])
        store.turn("a", 0, "z", 1)
        self.assertEqual([store.do(0), store.wrongs()], [[], []])


class Undue(Case):

    def test_a_row_without_a_mark(self):
        store = filled()
        store.look(0, "fell b", [0])
        work(store, "fell b", [0])
        store.put("b", 0)
        self.assertEqual([store.do(0), store.wrongs()], [[0], [("undue", "b", 0)]])

    def test_none_if_it_is_marked(self):
        store = filled()
        store.strike("b", 3)
        self.assertEqual([work(store, "fell b", [3, 0]), store.wrongs()], [[3, 0], []])

    def test_none_if_it_is_passed_over(self):
        store = filled("again b")
        store.look(0, "fell b", [0])
        work(store, "fell b", [0])
        store.put("b", 0)
        self.assertEqual([store.do(0), store.wrongs()], [[], []])

    def test_a_row_whose_owners_are_marked_or_gone(self):
        store = filled()
        store.put("a", 0, {"y": 0})
        store.look(0, "spread y", [0])
        store.do(0)
        store.look(0, "fell a", [0])
        work(store, "fell a", [0])
        store.put("a", 0, {"y": 0})
        self.assertEqual([store.do(0), store.wrongs()], [[0], [("undue", "a", 0)]])


class Unjust(Case):

    def marked(self, *checks, owners=(("y", 0),)):
        store = filled(*checks)
        store.put("a", 0, owners)
        work(store, "spread y", [0])
        return store

    def test_an_owner_without_a_mark(self):
        store = self.marked()
        store.turn("a", 0, "y", 1)
        self.assertEqual([work(store, "fell a", [0]), store.wrongs()], [[0], [("unjust", "y", 0)]])

    def test_no_owner(self):
        store = self.marked()
        store.turn("a", 0, "y", None)
        self.assertEqual([work(store, "fell a", [0]), store.wrongs()], [[0], [("unjust", "y", 0)]])

    def test_with_a_second_look_too(self):
        store = self.marked("again a", "again y")
        store.turn("a", 0, "y", 1)
        self.assertEqual([work(store, "fell a", [0]), store.wrongs()], [[0], [("unjust", "y", 0)]])

    def test_none_if_the_owner_is_marked(self):
        store = self.marked()
        self.assertEqual([work(store, "fell a", [0]), store.wrongs()], [[0], []])

    def test_none_if_the_owner_is_gone(self):
        store = self.marked()
        work(store, "fell b", [0])
        self.assertEqual([work(store, "fell a", [0]), store.wrongs()], [[0], []])

    def test_none_if_another_fall_column_says_so(self):
        for is_gone in (False, True):
            store = self.marked()
            store.put("a", 1)
            store.strike("a", 1)
            store.turn("a", 0, "x", 1)
            store.turn("a", 0, "y", 1)
            if is_gone:
                work(store, "fell a", [1])
            self.assertEqual([work(store, "fell a", [0]), store.wrongs()], [[0], []])

    def test_a_clear_column_does_not_count(self):
        for is_gone in (False, True):
            store = self.marked(owners=(("y", 0), ("z", 0)))
            store.turn("a", 0, "y", 1)
            if is_gone:
                work(store, "fell b", [0])
            self.assertEqual([work(store, "fell a", [0]), store.wrongs()], [[0], [("unjust", "y", 0)]])

    def test_a_column_of_another_home_does_not_count(self):
        book = Book([("a", True), ("b", True)], [("x", "b", "b", "fall"), ("y", "a", "b", "fall")])
        store = Store(book)
        for number in (0, 1):
            store.put("b", number)
        store.put("b", 5, {"x": 0})
        store.put("a", 5, {"y": 0})
        store.strike("b", 0)
        work(store, "spread y", [5])
        store.turn("a", 5, "y", 1)
        self.assertEqual([work(store, "fell a", [5]), store.wrongs()], [[5], [("unjust", "y", 5)]])

    def test_none_if_it_was_struck(self):
        store = self.marked()
        store.turn("a", 0, "y", None)
        store.strike("a", 0)
        self.assertEqual([work(store, "fell a", [0]), store.wrongs()], [[0], []])

    def test_the_mark_tells_the_column(self):
        store = filled()
        store.put("a", 1)
        store.put("a", 0, {"x": 1, "y": 1})
        store.strike("a", 1)
        work(store, "spread x", [0])
        store.turn("a", 0, "x", None)
        self.assertEqual([work(store, "fell a", [0]), store.wrongs()], [[0], [("unjust", "x", 0)]])

    def test_seen_ahead_of_the_do(self):
        for numbers in ([0, 1], [1, 0]):
            store = filled()
            store.put("a", 1)
            store.put("a", 0, {"x": 1})
            store.strike("a", 1)
            work(store, "spread x", [0])
            work(store, "fell a", [1])
            store.put("a", 1, {"y": 0})
            store.strike("a", 1)
            store.look(0, "fell a", numbers)
            work(store, "fell a", [1])
            store.put("a", 1)
            store.do(0)
            wanted = {0: ("unjust", "x", 0), 1: ("undue", "a", 1)}
            self.assertEqual(store.wrongs(), [wanted[number] for number in numbers])


class Wrongs(Case):

    def test_none_at_first_and_none_at_other_deeds(self):
        store = filled()
        store.put("a", 0, {"y": 0, "z": 0})
        store.turn("a", 0, "z", 1)
        store.strike("a", 0)
        store.look(0, "fell a", [0])
        store.stop(0)
        self.same_list(store.wrongs(), [])

    def test_in_the_order_of_the_list(self):
        store = filled()
        for number in (0, 1, 2, 3):
            store.put("a", number, {"y": 0})
        store.strike("a", 1)
        work(store, "spread y", [0, 2, 3])
        store.look(0, "fell a", [3, 1, 0, 2])
        store.turn("a", 3, "y", 4)
        store.turn("a", 2, "y", None)
        store.look(1, "fell a", [0])
        store.do(1)
        store.put("a", 0)
        self.assertEqual(store.do(0), [3, 1, 0, 2])
        self.same_list(store.wrongs(), [("unjust", "y", 3), ("undue", "a", 0), ("unjust", "y", 2)])

    def test_do_by_do(self):
        store = filled()
        store.put("a", 9, {"z": 0})
        store.look(0, "fell b", [0])
        store.look(1, "clear z", [9])
        work(store, "fell b", [0])
        store.put("b", 0)
        store.do(1)
        store.do(0)
        self.same_list(store.wrongs(), [("spoilt", "z", 9), ("undue", "b", 0)])

    def test_the_same_wrong_twice(self):
        store = filled()
        for _ in range(2):
            store.strike("b", 0)
            store.look(0, "fell b", [0])
            work(store, "fell b", [0])
            store.put("b", 0)
            store.do(0)
            store.put("b", 0)
        self.assertEqual(store.wrongs(), [("undue", "b", 0)] * 2)

    def test_the_list_is_ones_own(self):
        store = filled()
        store.wrongs().append(("undue", "b", 0))
        self.assertEqual(store.wrongs(), [])


class LooseAndHalf(Case):

    def filled(self):
        store = filled()
        store.strike("b", 1)
        rows = [(9, {"y": 0}), (8, {"y": 1}), (7, {"y": 2}), (6, ()), (5, {"y": 0}), (10, {"y": 0}), (4, {"z": 0})]
        for number, owners in rows:
            store.put("a", number, owners)
        store.strike("a", 5)
        store.strike("a", 8)
        return store

    def test_while_the_owner_is_there(self):
        store = self.filled()
        for column in ("y", "x", "z"):
            self.same_list(store.loose(column), [])
            self.same_list(store.half(column), [])

    def test_when_the_owner_is_gone(self):
        store = self.filled()
        work(store, "fell b", [0])
        self.same_list(store.loose("y"), [9, 10])
        self.same_list(store.half("y"), [5, 9, 10])
        self.assertEqual([store.loose("z"), store.half("z"), store.loose("x"), store.half("x")], [[4], [4], [], []])
        work(store, "fell b", [1])
        self.assertEqual([store.loose("y"), store.half("y")], [[9, 10], [5, 8, 9, 10]])
        store.put("b", 0)
        self.assertEqual([store.loose("y"), store.half("y")], [[], [8]])

    def test_a_row_of_that_number_in_another_kind(self):
        store = self.filled()
        store.put("a", 0)
        work(store, "fell b", [0])
        self.assertEqual(store.loose("y"), [9, 10])

    def test_unknown_column(self):
        store = self.filled()
        for thing in odd_things() + ["a", "b", "w"]:
            self.refuses(store, UnknownColumn(thing), store.loose, thing)
            self.refuses(store, UnknownColumn(thing), store.half, thing)

    def test_by_name(self):
        store = self.filled()
        work(store, "fell b", [0])
        self.assertEqual([store.loose(column="y"), store.half(column="y")], [[9, 10], [5, 9, 10]])


class Stuck(Case):

    def ring(self, *checks):
        store = Store(Book([("a", True), ("b", True)], [("x", "a", "a", "fall")], checks))
        store.put("a", 0)
        store.put("a", 1, {"x": 0})
        store.turn("a", 0, "x", 1)
        return store

    def test_a_ring_that_waits_for_itself(self):
        store = self.ring("bare a")
        self.assertIs(store.is_stuck(), False)
        store.strike("a", 0)
        self.assertIs(store.is_stuck(), False)
        work(store, "spread x", [1])
        self.assertIs(store.is_stuck(), True)

    def test_other_rows_do_not_help(self):
        store = self.ring("bare a")
        store.put("b", 0)
        store.strike("a", 0)
        store.strike("a", 1)
        self.assertIs(store.is_stuck(), True)
        store.put("a", 2)
        self.assertIs(store.is_stuck(), True)
        store.strike("b", 0)
        self.assertIs(store.is_stuck(), False)

    def test_some_hand_has_a_list(self):
        store = self.ring("bare a")
        store.strike("a", 0)
        store.look(0, "spread x", [1])
        store.strike("a", 1)
        self.assertIs(store.is_stuck(), False)
        store.stop(0)
        self.assertIs(store.is_stuck(), True)

    def test_some_piece_fits(self):
        store = self.ring("bare a")
        store.strike("a", 0)
        store.strike("a", 1)
        store.put("a", 2, {"x": 1})
        self.assertIs(store.is_stuck(), False)
        store = self.ring("calm a")
        store.strike("a", 0)
        store.strike("a", 1)
        self.assertIs(store.is_stuck(), False)

    def test_no_row_is_marked(self):
        self.assertIs(Store(Book([("a", True)])).is_stuck(), False)
        self.assertIs(self.ring("bare a").is_stuck(), False)


if __name__ == "__main__":
    unittest.main()
