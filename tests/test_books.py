"""Promises [1] to [5], and the questions of [15]."""

import itertools
import unittest

from longstrike.books import Book
from longstrike.errors import BadName, BadRule, NameInUse, UnknownCheck, UnknownKind, UnlikeBooks
from longstrike.stores import Store
from tests.cases import Case, odd_things

KINDS = [("house", True), ("room", False)]
COLUMNS = [("of", "room", "house", "fall"), ("by", "house", "room", "clear")]
MENU = [
    "put of", "turn of", "keep of", "hold of", "again of",
    "put by", "turn by", "keep by", "hold by", "again by",
    "bare house", "calm house", "again house", "bare room", "calm room", "again room",
    "lone", "fresh",
]


def whole_book(checks=()):
    return Book(KINDS, COLUMNS, checks)


class KindsAndColumns(Case):
    """[1]"""

    def test_names(self):
        for name in ("a", "z", "abcdefgh", "strikes", "lone", "fresh", "put", "none"):
            self.assertEqual(Book([(name, True)]).kinds(), [(name, True)])
            self.assertEqual(Book([("q", True)], [(name, "q", "q", "fall")]).columns(), [(name, "q", "q", "fall")])

    def test_bad_name_of_a_kind(self):
        for thing in odd_things() + ["abcdefghi", "strike", "", "Az", "a-b", "a b", "a\n", "\u00e4", "\u0101"]:
            self.fails(BadName(thing), Book, [(thing, True)])
            self.fails(BadName(thing), Book, [("a", True), (thing, False)])

    def test_bad_name_of_a_column(self):
        for thing in odd_things() + ["abcdefghi", "strike"]:
            self.fails(BadName(thing), Book, [("a", True)], [(thing, "a", "a", "fall")])
            self.fails(BadName(thing), Book, [("a", True)], [("x", "a", "a", "fall"), (thing, "a", "a", "fall")])

    def test_name_in_use(self):
        self.fails(NameInUse("a"), Book, [("a", True), ("a", True)])
        self.fails(NameInUse("a"), Book, [("a", True), ("b", False), ("a", False)])
        self.fails(NameInUse("b"), Book, [("a", True), ("b", False)], [("b", "a", "a", "fall")])
        self.fails(NameInUse("x"), Book, [("a", True)], [("x", "a", "a", "fall"), ("x", "a", "a", "clear")])
        columns = [("x", "a", "a", "fall"), ("y", "a", "a", "fall"), ("x", "a", "a", "fall")]
        self.fails(NameInUse("x"), Book, [("a", True)], columns)

    def test_unknown_home_and_goal(self):
        for thing in odd_things() + ["c", "x"]:
            self.fails(UnknownKind(thing), Book, [("a", True)], [("x", thing, "a", "fall")])
            self.fails(UnknownKind(thing), Book, [("a", True)], [("x", "a", thing, "fall")])
        self.fails(UnknownKind("b"), Book, [("a", True)], [("x", "b", "c", "fall")])
        self.fails(UnknownKind("y"), Book, [("a", True)], [("y", "a", "a", "fall"), ("x", "a", "y", "fall")])

    def test_bad_rule(self):
        for thing in odd_things() + ["falls", "Fall", "clear ", "a", "x"]:
            self.fails(BadRule(thing), Book, [("a", True)], [("x", "a", "a", thing)])

    def test_unknown_check(self):
        for thing in odd_things() + ["lone ", "put house", "bare of", "again", "again lone", "fresh of", "calm of"]:
            self.fails(UnknownCheck(thing), whole_book, [thing])
            self.fails(UnknownCheck(thing), whole_book, ["lone", thing, "nothing"])

    def test_order_within_a_kind(self):
        self.fails(BadName("A"), Book, [("A", True), ("A", True)])
        self.fails(NameInUse("a"), Book, [("a", True), ("a", True), ("A", True)])
        self.fails(BadName("A"), Book, [("a", True), ("A", True), ("a", True)])

    def test_order_within_a_column(self):
        self.fails(BadName("A"), Book, [("a", True)], [("A", "b", "c", "d")])
        self.fails(NameInUse("a"), Book, [("a", True)], [("a", "b", "c", "d")])
        self.fails(UnknownKind("b"), Book, [("a", True)], [("x", "b", "c", "d")])
        self.fails(UnknownKind("c"), Book, [("a", True)], [("x", "a", "c", "d")])
        self.fails(BadRule("d"), Book, [("a", True)], [("x", "a", "a", "d")])

    def test_order_of_the_items(self):
        bad_columns = [("x", "a", "a", "fall"), ("y", "a", "a", "d"), ("x", "a", "a", "fall")]
        self.fails(BadRule("d"), Book, [("a", True)], bad_columns, ["none"])
        self.fails(NameInUse("x"), Book, [("a", True)], [bad_columns[0], bad_columns[2], bad_columns[1]], ["none"])
        self.fails(NameInUse("a"), Book, [("a", True), ("a", True)], bad_columns, ["none"])
        self.fails(UnknownCheck("none"), Book, [("a", True)], bad_columns[:1], ["none"])
        self.fails(UnknownCheck("two"), Book, [("a", True)], bad_columns[:1], ["lone", "two", 3])

    def test_beyond_the_limits(self):
        kinds = [(name, True) for name in "abcd"]
        columns = [(name, "a", "d", "fall") for name in "vwxyz"]
        book = Book(kinds, columns)
        self.assertEqual([book.kinds(), book.columns()], [kinds, columns])


class Menus(Case):
    """[2]"""

    def test_order(self):
        self.same_list(whole_book().menu(), MENU)

    def test_order_of_unlike_columns(self):
        book = Book([("b", False), ("a", True)], [("z", "a", "a", "clear"), ("y", "b", "b", "fall")])
        words = ["put", "turn", "keep", "hold", "again"]
        wanted = [f"{word} {name}" for name in "zy" for word in words]
        wanted = wanted + [f"{word} {name}" for name in "ba" for word in ["bare", "calm", "again"]]
        self.assertEqual(book.menu(), wanted + ["lone", "fresh"])

    def test_without_columns(self):
        self.assertEqual(Book([("a", False)]).menu(), ["bare a", "calm a", "again a", "lone", "fresh"])

    def test_the_same_with_checks(self):
        self.assertEqual(whole_book(["lone", "put of"]).menu(), MENU)


class Told(Case):
    """[3]"""

    def test_kinds_and_columns(self):
        self.same_list(whole_book().kinds(), KINDS)
        self.same_list(whole_book().columns(), COLUMNS)

    def test_lists_for_tuples_and_tuples_for_lists(self):
        book = Book((["house", True], ["room", False]), (["of", "room", "house", "fall"],), ("lone", "put of"))
        self.same_list(book.kinds(), KINDS)
        self.same_list(book.columns(), COLUMNS[:1])
        self.same_list(book.checks(), ["put of", "lone"])

    def test_empty(self):
        book = Book([("a", True)])
        self.assertEqual([book.columns(), book.checks(), len(book), book.columns_of("a")], [[], [], 0, []])

    def test_every_check(self):
        for check in MENU:
            book = whole_book([check])
            self.assertEqual([book.checks(), len(book)], [[check], 1])
            self.assertEqual([other for other in MENU if other in book], [check])
        self.assertEqual(whole_book(MENU).checks(), MENU)

    def test_checks_in_the_order_of_the_menu(self):
        for checks in itertools.permutations(["again of", "turn by", "bare room", "lone"]):
            book = whole_book(checks)
            self.same_list(book.checks(), ["again of", "turn by", "bare room", "lone"])
            self.assertEqual(book, whole_book(["again of", "turn by", "bare room", "lone"]))
        self.assertEqual(whole_book(MENU[::-1]).checks(), MENU)

    def test_checks_once(self):
        book = whole_book(["fresh", "put of", "fresh", "put of"])
        self.assertEqual([book.checks(), len(book)], [["put of", "fresh"], 2])

    def test_len_and_in(self):
        book = whole_book(["fresh", "put of"])
        self.assertEqual(len(book), 2)
        self.assertIs("fresh" in book, True)
        self.assertIs("lone" in book, False)
        for thing in odd_things() + ["house", "of", "put", "fres", "fresh "]:
            self.assertIs(thing in book, False)

    def test_columns_of(self):
        columns = [("x", "b", "a", "fall"), ("w", "a", "a", "clear"), ("v", "b", "b", "clear")]
        book = Book([("a", True), ("b", True), ("c", True)], columns)
        self.same_list(book.columns_of("a"), ["w"])
        self.same_list(book.columns_of("b"), ["x", "v"])
        self.same_list(book.columns_of("c"), [])
        for thing in odd_things() + ["x", "d", "A"]:
            self.fails(UnknownKind(thing), book.columns_of, thing)

    def test_changed_behind(self):
        kinds = [["a", True], ["b", False]]
        columns = [["x", "a", "b", "fall"]]
        checks = ["lone"]
        book = Book(kinds, columns, checks)
        kinds[0][0] = "c"
        kinds.append(["d", True])
        columns[0][1] = "b"
        columns.append(["y", "a", "b", "clear"])
        checks.append("fresh")
        self.assertEqual(book, Book([("a", True), ("b", False)], [("x", "a", "b", "fall")], ["lone"]))
        self.assertEqual(book.columns_of("a"), ["x"])

    def test_what_is_given_stays(self):
        kinds, columns, checks = [["a", True]], [["x", "a", "a", "fall"]], ["lone", "put x", "lone"]
        Book(kinds, columns, checks)
        self.assertEqual([kinds, columns, checks], [[["a", True]], [["x", "a", "a", "fall"]], ["lone", "put x", "lone"]])

    def test_returned_lists_changed(self):
        book = whole_book(["lone"])
        for told in (book.kinds, book.columns, book.menu, book.checks, book.markable, book.questions):
            wanted = told()
            told().append("more")
            told().clear()
            self.assertEqual(told(), wanted)
        book.columns_of("room").append("more")
        self.assertEqual(book.columns_of("room"), ["of"])
        self.assertEqual(book, whole_book(["lone"]))

    def test_by_names(self):
        book = Book(checks=["lone"], columns=COLUMNS, kinds=KINDS)
        self.assertEqual(book, whole_book(["lone"]))
        self.assertEqual(book.columns_of(kind="room"), ["of"])
        self.assertEqual(Book(kinds=KINDS).columns(), [])


class Questions(Case):
    """[15]"""

    def test_questions(self):
        wanted = ["loose of", "half of", "unjust of", "loose by", "half by", "spoilt by"]
        self.same_list(whole_book().questions(), wanted + ["undue house", "undue room", "stuck"])

    def test_without_columns(self):
        self.assertEqual(Book([("b", False), ("a", True)]).questions(), ["undue b", "undue a", "stuck"])


class Joined(Case):
    """[4]"""

    def test_plus(self):
        book = whole_book(["lone"])
        self.assertEqual((book + "put of").checks(), ["put of", "lone"])
        self.assertEqual((book + "lone").checks(), ["lone"])
        self.assertEqual((book + "put of").kinds(), KINDS)
        self.assertEqual((book + "put of").columns(), COLUMNS)
        self.assertEqual(book.checks(), ["lone"])

    def test_minus(self):
        book = whole_book(["lone", "put of"])
        self.assertEqual((book - "lone").checks(), ["put of"])
        self.assertEqual((book - "fresh").checks(), ["put of", "lone"])
        self.assertEqual((book - "lone").columns(), COLUMNS)
        self.assertEqual(book.checks(), ["put of", "lone"])

    def test_unknown_checks(self):
        book = whole_book(["lone"])
        for thing in odd_things() + ["bare of", "put house", "lone ", ["lone"], book]:
            self.fails(UnknownCheck(thing), lambda: book + thing)
            self.fails(UnknownCheck(thing), lambda: book - thing)
        self.assertEqual(book, whole_book(["lone"]))

    def test_in_place_the_old_one_stays(self):
        book = other = whole_book(["lone"])
        other += "fresh"
        self.assertEqual([book.checks(), other.checks()], [["lone"], ["lone", "fresh"]])
        other -= "lone"
        self.assertEqual([book.checks(), other.checks()], [["lone"], ["fresh"]])

    def test_either_and_both(self):
        one, other = whole_book(["lone", "put of", "bare room"]), whole_book(["fresh", "put of", "lone"])
        self.assertEqual((one | other).checks(), ["put of", "bare room", "lone", "fresh"])
        self.assertEqual((other | one).checks(), ["put of", "bare room", "lone", "fresh"])
        self.assertEqual((one & other).checks(), ["put of", "lone"])
        self.assertEqual((other & one).checks(), ["put of", "lone"])
        self.assertEqual((one | whole_book(), one & whole_book()), (one, whole_book()))
        self.assertEqual((one | other).columns(), COLUMNS)
        self.assertEqual((one & other).kinds(), KINDS)
        self.assertEqual(one.checks(), ["put of", "bare room", "lone"])
        self.assertEqual(other.checks(), ["put of", "lone", "fresh"])

    def unlike(self):
        return [
            Book([("house", True), ("room", True)], COLUMNS),
            Book([("room", False), ("house", True)], COLUMNS),
            Book([*KINDS, ("c", True)], COLUMNS),
            Book([("house", True), ("rooms", False)]),
            Book(KINDS, COLUMNS[:1]),
            Book(KINDS, COLUMNS[::-1]),
            Book(KINDS, [("of", "room", "house", "clear"), COLUMNS[1]]),
            Book(KINDS, [("of", "room", "room", "fall"), COLUMNS[1]]),
            Book(KINDS, [("of", "house", "house", "fall"), COLUMNS[1]]),
            Book(KINDS, [("ob", "room", "house", "fall"), COLUMNS[1]]),
        ]

    def test_unlike_books(self):
        book = whole_book()
        for other in self.unlike():
            self.fails(UnlikeBooks(), lambda: book | other)
            self.fails(UnlikeBooks(), lambda: book & other)
            self.fails(UnlikeBooks(), lambda: other | book)
            self.fails(UnlikeBooks(), lambda: other & book)
            self.assertIs(book == other, False)
            self.assertIs(book != other, True)
            self.assertEqual([book <= other, book < other, book >= other, book > other], [False] * 4)
        self.assertEqual(book, whole_book())

    def test_other_objects_are_not_joined(self):
        book = whole_book()
        for thing in odd_things():
            if not isinstance(thing, Book):
                for join in (lambda: book | thing, lambda: book & thing, lambda: book <= thing, lambda: book < thing):
                    with self.assertRaises(TypeError):
                        join()

    def test_equal(self):
        self.assertIs(whole_book(["lone", "put of"]) == whole_book(["put of", "lone"]), True)
        self.assertIs(whole_book(["lone", "put of"]) != whole_book(["put of", "lone"]), False)
        self.assertIs(whole_book(["lone"]) == whole_book(), False)
        self.assertIs(whole_book(["lone"]) == whole_book(["fresh"]), False)
        self.assertIs(whole_book(["lone"]) != whole_book(["fresh"]), True)

    def test_equal_to_nothing_else(self):
        book = Book([("a", True)])
        for thing in odd_things() + [Store(book), book.kinds(), "a"]:
            if not isinstance(thing, Book):
                self.assertEqual([book == thing, thing == book], [False, False])
                self.assertEqual([book != thing, thing != book], [True, True])

    def test_order(self):
        less, more, other = whole_book(["lone"]), whole_book(["lone", "put of"]), whole_book(["fresh", "bare room"])
        self.assertEqual([less <= more, less < more, less >= more, less > more], [True, True, False, False])
        self.assertEqual([more <= less, more < less, more >= less, more > less], [False, False, True, True])
        self.assertEqual([less <= other, less < other, less >= other, less > other], [False] * 4)
        twin = whole_book(["lone"])
        self.assertEqual([less <= twin, less < twin, less >= twin, less > twin], [True, False, True, False])
        self.assertEqual([whole_book() <= less, whole_book() < less, whole_book() <= whole_book()], [True] * 3)
        for found in (less <= more, less < more, more <= less, more < less):
            self.assertIs(type(found), bool)


class Markable(Case):
    """[5]"""

    def test_open_and_closed_kinds(self):
        self.same_list(Book([("b", True), ("c", False), ("a", True)]).markable(), ["b", "a"])
        self.same_list(Book([("b", False)]).markable(), [])

    def test_fall_and_clear_columns(self):
        kinds = [("a", True), ("b", False)]
        self.assertEqual(Book(kinds, [("x", "b", "a", "fall")]).markable(), ["a", "b"])
        self.assertEqual(Book(kinds, [("x", "b", "a", "clear")]).markable(), ["a"])
        self.assertEqual(Book(kinds, [("x", "a", "b", "fall")]).markable(), ["a"])

    def test_ways_of_several_columns(self):
        kinds = [("a", False), ("b", False), ("c", True)]
        for columns in itertools.permutations([("x", "b", "c", "fall"), ("y", "a", "b", "fall")]):
            self.assertEqual(Book(kinds, columns).markable(), ["a", "b", "c"])
        self.assertEqual(Book(kinds, [("x", "b", "c", "clear"), ("y", "a", "b", "fall")]).markable(), ["c"])
        self.assertEqual(Book(kinds, [("x", "b", "c", "fall"), ("y", "a", "b", "clear")]).markable(), ["b", "c"])

    def test_a_long_way_against_the_order(self):
        kinds = [("a", False), ("b", False), ("c", False), ("d", True)]
        columns = [("x", "a", "b", "fall"), ("y", "b", "c", "fall"), ("z", "c", "d", "fall")]
        for some in itertools.permutations(columns):
            self.assertEqual(Book(kinds, some).markable(), ["a", "b", "c", "d"])

    def test_rings(self):
        ring = [("x", "a", "b", "fall"), ("y", "b", "a", "fall"), ("z", "a", "a", "fall")]
        self.assertEqual(Book([("a", False), ("b", False)], ring).markable(), [])
        self.assertEqual(Book([("a", False), ("b", True)], ring).markable(), ["a", "b"])
        self.assertEqual(Book([("a", True), ("b", False)], ring[2:]).markable(), ["a"])

    def test_several_columns_of_one_home(self):
        kinds = [("a", False), ("b", True), ("c", False)]
        columns = [("x", "a", "c", "fall"), ("y", "a", "b", "fall")]
        self.assertEqual(Book(kinds, columns).markable(), ["a", "b"])

    def test_whatever_checks(self):
        book = whole_book(MENU)
        self.assertEqual(book.markable(), ["house", "room"])


if __name__ == "__main__":
    unittest.main()
