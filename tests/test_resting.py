"""Promises [26] and [27]: strikes at once, and stores at rest."""

import random
import unittest

from longstrike.books import Book
from longstrike.errors import NoFit, Taken, Used
from longstrike.resting import rest, whole
from longstrike.stores import Store
from longstrike.weavings import done, played
from tests.cases import Case, told
from tests.drawing import drawn_book, drawn_deed, drawn_number, is_done

KINDS = [("a", True), ("b", True), ("c", False)]
COLUMNS = [
    ("p", "a", "b", "fall"), ("q", "a", "a", "fall"), ("r", "b", "a", "clear"), ("s", "c", "b", "fall"),
]


def book_with(*checks):
    return Book(KINDS, COLUMNS, checks)


def rows_of(store):
    """All rows, by their kinds: the number, the owners that are not None, and the mark."""
    return {
        kind: [(number, {name: owner for name, owner in owners.items() if owner is not None}, mark)
               for number, owners, mark in store.rows(kind)]
        for kind, is_open in store.book().kinds()
    }


def work(store, piece, numbers, hand=77):
    store.look(hand, piece, numbers)
    return store.do(hand)


def second_whole(store):
    """A second reading of [26]: the rows, taken from the document word by word, round by round."""
    rows = {(kind, number): (dict(owners), mark)
            for kind, _ in store.book().kinds() for number, owners, mark in store.rows(kind)}
    columns = {name: (goal, rule) for name, home, goal, rule in store.book().columns()}
    out = {row for row in rows if rows[row][1] is not None}
    while True:
        more = {row for row in rows if row not in out and any(
            columns[name][1] == "fall" and (columns[name][0], owner) in out for name, owner in rows[row][0].items())}
        if not more:
            break
        out |= more
    left = {kind: [] for kind, _ in store.book().kinds()}
    for row in sorted(rows):
        if row not in out:
            owners = {name: None if (columns[name][0], owner) in out else owner for name, owner in rows[row][0].items()}
            left[row[0]].append((row[1], owners, None))
    return left


def all_rows(store):
    return {kind: store.rows(kind) for kind, _ in store.book().kinds()}


def drawn_store(chance, book):
    """A store with rows that refer to rows, strikes that are half done, and lists that hands have still."""
    store, many = Store(book, chance.randint(1, 3)), 6
    open_kinds = [name for name, is_open in book.kinds() if is_open] or ["a"]
    for kind, is_open in book.kinds():
        for number in chance.sample(range(many), chance.randint(2, many)):
            store.put(kind, number)

    def turn():
        name, home, goal, rule = chance.choice(book.columns())
        is_done(store, ("turn", home, chance.randrange(many), name, chance.choice([None, *range(many)])))

    for _ in range(30):
        turn()
    for _ in range(chance.randint(0, 30)):
        word = chance.choice(["turn", "free", "strike", "spread", "spread", "spread", "clear", "fell", "put", "other"])
        fits = [(piece, store.fits(piece)) for piece in store.pieces() if piece.startswith(word) and store.fits(piece)]
        if word == "turn":
            turn()
        elif word == "free":
            name, home, goal, rule = chance.choice(book.columns())
            for number, owners, mark in store.rows(home):
                if mark == name:
                    is_done(store, ("turn", home, number, name, None))
        elif word == "strike":
            kind = chance.choice(open_kinds)
            is_done(store, ("strike", kind, drawn_number(chance, store, kind, many)))
        elif word == "put":
            is_done(store, ("put", chance.choice(book.kinds())[0], chance.randrange(many), ()))
        elif word == "other":
            is_done(store, drawn_deed(chance, store, many))
        elif fits:
            piece, numbers = chance.choice(fits)
            is_done(store, ("look", 4, piece, chance.sample(numbers, 1))) and is_done(store, ("do", 4))
    return store


def with_held_goals(chance, book):
    """The book with calm or bare for the goal of each column."""
    words = [f"{chance.choice(['calm', 'bare'])} {goal}" for name, home, goal, rule in book.columns()]
    return Book(book.kinds(), book.columns(), [*book.checks(), *words])


def change(store):
    """Change all that a store keeps: rows, owners, marks, lists, wrongs, and the numbers that were used."""
    for hand in store.lists():
        store.stop(hand)
    for hand, (kind, is_open) in enumerate(store.book().kinds()):
        store.put(kind, 900)
        for number, owners, mark in store.rows(kind):
            for name in owners:
                store.turn(kind, number, name, None)
            if is_open:
                store.strike(kind, number)
        if is_open:
            for other in (hand, 10, 11):
                store.look(other, "fell " + kind, [900])
            store.do(10)
            store.put(kind, 900)
            store.do(11)


class RestingCase(Case):

    def goes_on_alone(self, call, store):
        """The store stays as it is under the call; then it and what the call returns go on alone."""
        ahead = told(store)
        found = call(store)
        self.assertEqual(told(store), ahead)
        behind = told(found)
        change(store)
        self.assertEqual(told(found), behind)
        ahead = told(store)
        change(found)
        self.assertEqual(told(store), ahead)
        self.assertNotEqual(told(found), behind)

    def used_alone(self, call, store):
        """A number that is used in what the call returns is not used in the store, and the other way around."""
        found = call(store)
        for one, other, number in ((found, store, 50), (store, found, 60)):
            one.put("b", number)
            one.strike("b", number)
            work(one, "fell b", [number])
            self.refuses(one, Used("b", number), one.put, "b", number)
            other.put("b", number)


class Whole(RestingCase):
    """[26]"""

    def test_no_rows_and_no_marks(self):
        self.assertEqual(told(whole(Store(book_with(), 3))), told(Store(book_with(), 3)))
        store = Store(book_with("lone"), 2)
        store.put("b", 0)
        store.put("a", 5, {"p": 0})
        self.assertEqual(told(whole(store)), told(store))
        self.assertIsNot(whole(store), store)
        self.assertIs(type(whole(store)), Store)

    def test_book_and_size(self):
        for size in (1, 4):
            found = whole(Store(book_with("fresh", "bare a"), size))
            self.assertEqual([found.book(), found.size()], [book_with("fresh", "bare a"), size])

    def test_marked_rows_of_several_kinds(self):
        store = Store(book_with(), 3)
        for number in (0, 1, 2):
            store.put("b", number)
            store.put("c", number, {"s": number})
            store.put("a", number)
        store.strike("b", 1)
        store.strike("a", 2)
        work(store, "spread s", [1])
        self.assertEqual(rows_of(whole(store)), {
            "a": [(0, {}, None), (1, {}, None)], "b": [(0, {}, None), (2, {}, None)],
            "c": [(0, {"s": 0}, None), (2, {"s": 2}, None)],
        })

    def test_several_fall_columns(self):
        store = Store(book_with())
        store.put("b", 0)
        store.put("b", 1)
        store.put("a", 0)
        store.put("a", 1, {"p": 0, "q": 0})
        store.put("a", 2, {"p": 1, "q": 0})
        store.put("a", 3, {"p": 0})
        store.put("c", 0, {"s": 0})
        store.put("c", 1, {"s": 1})
        store.strike("b", 1)
        self.assertEqual([row[0] for row in whole(store).rows("a")], [0, 1, 3])
        self.assertEqual([row[0] for row in whole(store).rows("c")], [0])
        store.strike("a", 0)
        self.assertEqual([row[0] for row in whole(store).rows("a")], [3])

    def test_chains(self):
        store = Store(book_with())
        numbers = [50, 3, 77, 1, 20, 9]
        for at, number in enumerate(numbers):
            store.put("a", number, {"q": numbers[at - 1]} if at else ())
        store.strike("a", 77)
        self.assertEqual(rows_of(whole(store))["a"], [(3, {"q": 50}, None), (50, {}, None)])

    def test_long_chains(self):
        for rising in (True, False):
            store = Store(book_with())
            many = 2500
            numbers = list(range(many)) if rising else list(range(many - 1, -1, -1))
            for at, number in enumerate(numbers):
                store.put("a", number, {"q": numbers[at - 1]} if at else ())
            store.strike("a", numbers[1])
            self.assertEqual(rows_of(whole(store))["a"], [(numbers[0], {}, None)])

    def test_rings(self):
        store = Store(book_with("bare a"))
        for number in range(6):
            store.put("a", number)
        for number, owner in [(0, 1), (1, 2), (2, 0), (3, 4), (4, 3), (5, 3)]:
            store.turn("a", number, "q", owner)
        store.strike("a", 1)
        self.assertEqual(rows_of(whole(store))["a"], [(3, {"q": 4}, None), (4, {"q": 3}, None), (5, {"q": 3}, None)])
        store.strike("a", 5)
        self.assertEqual(rows_of(whole(store))["a"], [(3, {"q": 4}, None), (4, {"q": 3}, None)])
        store.strike("a", 4)
        self.assertEqual(rows_of(whole(store))["a"], [])

    def test_owners_by_clear_columns(self):
        store = Store(book_with())
        store.put("a", 0)
        store.put("a", 1)
        store.put("a", 2, {"q": 0})
        for number in (0, 1, 2):
            store.put("b", number, {"r": number})
        store.strike("a", 0)
        found = whole(store)
        self.assertEqual(found.rows("b"), [(0, {"r": None}, None), (1, {"r": 1}, None), (2, {"r": None}, None)])
        self.assertEqual(rows_of(found)["a"], [(1, {}, None)])

    def test_a_clear_column_does_not_fell(self):
        book = Book([("a", True)], [("r", "a", "a", "clear"), ("q", "a", "a", "fall")])
        store = Store(book)
        store.put("a", 0)
        store.put("a", 1, {"r": 0})
        store.put("a", 2, {"q": 1})
        store.strike("a", 0)
        self.assertEqual(whole(store).rows("a"), [(1, {"r": None, "q": None}, None), (2, {"r": None, "q": 1}, None)])

    def test_a_row_that_falls_and_has_a_clear_column(self):
        book = Book([("a", True)], [("r", "a", "a", "clear"), ("q", "a", "a", "fall")])
        store = Store(book)
        store.put("a", 0)
        store.put("a", 1)
        store.put("a", 2, {"r": 1, "q": 0})
        store.put("a", 3, {"r": 0, "q": 1})
        store.put("a", 4, {"r": 2, "q": 3})
        store.strike("a", 0)
        self.assertEqual(rows_of(whole(store))["a"], [(1, {}, None), (3, {"q": 1}, None), (4, {"q": 3}, None)])

    def test_the_same_number_of_another_kind(self):
        store = Store(book_with())
        store.put("b", 7)
        store.put("a", 7, {"p": 7})
        store.put("a", 8, {"q": 7})
        store.put("b", 8, {"r": 7})
        store.turn("a", 7, "p", 8)
        store.strike("b", 7)
        self.assertEqual(rows_of(whole(store)), {
            "a": [(7, {"p": 8}, None), (8, {"q": 7}, None)], "b": [(8, {"r": 7}, None)], "c": [],
        })

    def gone_owners(self):
        """a 1 and a 2 refer by fall columns, b 5 by a clear one, to rows that are gone; a 3 falls."""
        store = Store(book_with())
        for number in (0, 1):
            store.put("b", number)
            store.put("a", number)
        store.put("a", 2, {"q": 0})
        store.put("b", 5, {"r": 0})
        store.turn("a", 1, "p", 0)
        store.put("a", 3, {"q": 0, "p": 1})
        store.strike("b", 0)
        store.strike("a", 0)
        work(store, "fell b", [0])
        work(store, "fell a", [0])
        store.strike("b", 1)
        return store

    def test_owners_that_were_not_there_before(self):
        store = self.gone_owners()
        self.assertEqual(rows_of(whole(store)), {
            "a": [(1, {"p": 0}, None), (2, {"q": 0}, None)], "b": [(5, {"r": 0}, None)], "c": [],
        })

    def test_rows_whose_number_came_again(self):
        store = self.gone_owners()
        store.put("b", 0)
        store.put("a", 0)
        store.strike("a", 0)
        self.assertEqual(rows_of(whole(store)), {
            "a": [(1, {"p": 0}, None)], "b": [(0, {}, None), (5, {}, None)], "c": [],
        })

    def test_marks_of_any_sort(self):
        store = Store(book_with())
        store.put("b", 0)
        store.put("a", 0, {"p": 0})
        store.put("c", 0, {"s": 0})
        store.put("a", 1, {"q": 0})
        store.strike("b", 0)
        work(store, "spread p", [0])
        work(store, "spread s", [0])
        work(store, "spread q", [1])
        for kind, number, column in (("a", 0, "p"), ("a", 1, "q"), ("c", 0, "s")):
            store.turn(kind, number, column, None)
        self.assertEqual([store.mark(kind, number) for kind, number in (("b", 0), ("a", 0), ("a", 1), ("c", 0))],
                         ["strike", "p", "q", "s"])
        self.assertEqual(rows_of(whole(store)), {"a": [], "b": [], "c": []})

    def test_no_lists_and_no_wrongs(self):
        store = Store(book_with())
        for number in (0, 1):
            store.put("b", number)
            store.strike("b", number)
        store.look(0, "fell b", [0])
        store.look(1, "fell b", [0])
        store.do(0)
        store.put("b", 0)
        store.do(1)
        store.put("b", 0)
        store.look(4, "fell b", [1])
        self.assertEqual([store.wrongs(), store.lists()], [[("undue", "b", 0)], {4: ("fell b", (1,))}])
        found = whole(store)
        self.assertEqual([found.wrongs(), found.lists(), found.rows("b")], [[], {}, [(0, {"r": None}, None)]])
        self.assertEqual([store.wrongs(), store.lists()], [[("undue", "b", 0)], {4: ("fell b", (1,))}])

    def test_used_numbers(self):
        store = Store(book_with("fresh"))
        store.put("b", 0)
        store.put("b", 1)
        store.put("b", 2)
        store.put("a", 6, {"p": 1})
        store.strike("b", 0)
        work(store, "fell b", [0])
        store.strike("b", 1)
        found = whole(store)
        self.assertEqual([found.rows("a"), [row[0] for row in found.rows("b")]], [[], [2]])
        self.refuses(found, Used("b", 0), found.put, "b", 0)
        self.refuses(found, Used("b", 1), found.put, "b", 1)
        self.refuses(found, Taken("b", 2), found.put, "b", 2)
        self.refuses(found, Used("a", 6), found.put, "a", 6)
        twin = whole(found)
        self.refuses(twin, Used("a", 6), twin.put, "a", 6)
        self.used_alone(whole, store)

    def test_used_numbers_without_fresh(self):
        store = Store(book_with())
        store.put("b", 1)
        store.strike("b", 1)
        found = whole(store)
        found.put("b", 1)
        self.assertEqual([found.rows("b"), store.mark("b", 1)], [[(1, {"r": None}, None)], "strike"])

    def test_whole_of_whole(self):
        for store in (self.gone_owners(), Store(book_with())):
            self.assertEqual(told(whole(whole(store))), told(whole(store)))

    def test_the_store_goes_on_alone(self):
        store = self.gone_owners()
        store.put("c", 0, {"s": 5})
        store.look(3, "fell b", [1])
        self.goes_on_alone(whole, store)

    def test_the_owners_are_ones_own(self):
        store = Store(book_with())
        store.put("b", 0)
        store.put("b", 1)
        store.put("a", 0, {"p": 0})
        found = whole(store)
        store.turn("a", 0, "p", 1)
        self.assertEqual(found.owner("a", 0, "p"), 0)
        found.turn("a", 0, "p", None)
        self.assertEqual(store.owner("a", 0, "p"), 1)

    def test_the_order_of_the_owners(self):
        store = Store(book_with())
        store.put("b", 0)
        store.put("a", 1)
        store.put("a", 0, {"q": 1, "p": 0})
        self.assertEqual([list(owners) for number, owners, mark in whole(store).rows("a")], [["p", "q"]] * 2)

    def test_by_name(self):
        store = self.gone_owners()
        self.assertEqual(whole(store=store), whole(store))

    def test_drawn_stores(self):
        chance = random.Random(261)
        felled = 0
        for _ in range(400):
            store = drawn_store(chance, drawn_book(chance, chance.choice([None, True])))
            ahead = told(store)
            found = whole(store)
            self.assertEqual(told(store), ahead)
            self.assertEqual(all_rows(found), second_whole(store))
            self.assertEqual([found.lists(), found.wrongs()], [{}, []])
            self.assertEqual([found.book(), found.size()], [store.book(), store.size()])
            self.assertEqual(told(whole(found)), told(found))
            felled += all_rows(found) != all_rows(store)
        self.assertGreater(felled, 50)


class Rest(RestingCase):
    """[27]"""

    def test_no_rows_and_no_marks(self):
        self.assertEqual(told(rest(Store(book_with(), 3))), told(Store(book_with(), 3)))
        store = Store(book_with("lone"), 2)
        store.put("b", 0)
        store.put("a", 5, {"p": 0})
        self.assertEqual(told(rest(store)), told(store))
        self.assertIsNot(rest(store), store)
        self.assertIs(type(rest(store)), Store)

    def test_book_and_size(self):
        for size in (1, 4):
            found = rest(Store(book_with("fresh", "bare a"), size))
            self.assertEqual([found.book(), found.size()], [book_with("fresh", "bare a"), size])

    def test_spread_clear_and_fell(self):
        again = ["again p", "again a", "again r", "lone", "keep r"]
        for checks in ([], ["bare a", "bare b"], ["calm a", "calm b"], again):
            store = Store(book_with(*checks))
            store.put("b", 0)
            store.put("a", 0, {"p": 0})
            store.put("a", 1, {"q": 0})
            store.put("a", 2)
            store.put("b", 1, {"r": 1})
            store.put("b", 2, {"r": 2})
            store.put("c", 0, {"s": 0})
            store.put("c", 1, {"s": 1})
            store.strike("b", 0)
            found = rest(store)
            self.assertEqual(rows_of(found), {
                "a": [(2, {}, None)], "b": [(1, {}, None), (2, {"r": 2}, None)], "c": [(1, {"s": 1}, None)],
            })
            self.assertEqual([found.wrongs(), found.lists(), found.is_stuck()], [[], {}, False])

    def ring(self, checks, columns=(("p", "a", "a", "fall"), ("q", "a", "a", "fall"))):
        """A store of one kind, in which nothing is felled that is referred to."""
        return Store(Book([("a", True)], list(columns), checks))

    def test_the_first_piece_again_and_again(self):
        store = self.ring(["bare a"])
        store.put("a", 0)
        store.put("a", 5, {"p": 0})
        store.put("a", 1, {"q": 0, "p": 5})
        store.turn("a", 0, "p", 1)
        store.strike("a", 0)
        found = rest(store)
        self.assertEqual(rows_of(found)["a"], [(0, {"p": 1}, "strike"), (1, {"q": 0, "p": 5}, "p"), (5, {"p": 0}, "p")])
        self.assertIs(found.is_stuck(), True)

    def test_the_order_of_the_book(self):
        columns = (("q", "a", "a", "fall"), ("p", "a", "a", "fall"))
        store = self.ring(["bare a"], columns)
        store.put("a", 0)
        store.put("a", 1, {"q": 0, "p": 0})
        store.turn("a", 0, "p", 1)
        store.strike("a", 0)
        self.assertEqual([mark for number, owners, mark in rest(store).rows("a")], ["strike", "q"])
        store = self.ring(["bare a"])
        store.put("a", 0)
        store.put("a", 1, {"q": 0, "p": 0})
        store.turn("a", 0, "p", 1)
        store.strike("a", 0)
        self.assertEqual([mark for number, owners, mark in rest(store).rows("a")], ["strike", "p"])

    def test_for_its_first_row_alone(self):
        """Behind row 1, the piece "spread p" fits row 3, ahead of "spread q"."""
        for size in (1, 9):
            store = Store(Book([("a", True)], [("p", "a", "a", "fall"), ("q", "a", "a", "fall")], ["bare a"]), size)
            store.put("a", 0)
            store.put("a", 1, {"q": 0})
            store.put("a", 3, {"q": 0, "p": 1})
            store.turn("a", 0, "p", 3)
            store.strike("a", 0)
            self.assertEqual([mark for number, owners, mark in rest(store).rows("a")], ["strike", "q", "p"])

    def test_for_its_first_row_first(self):
        """Row 1 comes ahead of row 3, and so is not marked by p."""
        store = self.ring(["bare a"])
        store.put("a", 0)
        store.put("a", 3, {"q": 0})
        store.put("a", 1, {"q": 0, "p": 3})
        store.turn("a", 0, "p", 1)
        store.strike("a", 0)
        self.assertEqual([mark for number, owners, mark in rest(store).rows("a")], ["strike", "q", "q"])

    def test_spread_ahead_of_clear(self):
        store = Store(Book([("a", True)], [("r", "a", "a", "clear"), ("p", "a", "a", "fall")], ["bare a"]))
        store.put("a", 0)
        store.put("a", 1, {"p": 0, "r": 0})
        store.turn("a", 0, "p", 1)
        store.strike("a", 0)
        self.assertEqual(rest(store).rows("a"), [(0, {"r": None, "p": 1}, "strike"), (1, {"r": None, "p": 0}, "p")])

    def test_the_order_of_the_felling(self):
        """What is unjust tells it: kinds in the order of the book, then by ascending numbers."""
        store = Store(book_with(), 9)
        store.put("b", 0)
        for number in (2, 0, 1):
            store.put("a", number, {"p": 0})
            store.put("c", number, {"s": 0})
        store.strike("b", 0)
        work(store, "spread s", [2, 0, 1])
        work(store, "spread p", [2, 0, 1])
        for number in (2, 0, 1):
            store.turn("c", number, "s", None)
            store.turn("a", number, "p", None)
        found = rest(store)
        self.same_list(found.wrongs(), [(*wrong, number) for wrong in (("unjust", "p"), ("unjust", "s"))
                                        for number in (0, 1, 2)])
        self.assertEqual(rows_of(found), {"a": [], "b": [], "c": []})

    def test_kinds_again_and_again(self):
        """Rows of a later kind hold some of an earlier kind, which fall behind them, and are unjust there."""
        kinds = [("a", True), ("b", True)]
        store = Store(Book(kinds, [("p", "b", "a", "fall"), ("q", "a", "a", "fall")], ["bare a"]), 9)
        for number in (5, 0, 1, 6, 7):
            store.put("a", number, () if number == 5 else {"q": 5})
        for number in (0, 1):
            store.put("b", number, {"p": number})
        store.strike("a", 5)
        work(store, "spread q", [0, 1, 6, 7])
        work(store, "spread p", [0, 1])
        for number in (0, 1, 6, 7):
            store.turn("a", number, "q", None)
        found = rest(store)
        self.assertEqual(rows_of(found), {"a": [], "b": []})
        self.same_list(found.wrongs(), [("unjust", "q", number) for number in (6, 7, 0, 1)])

    def test_lists_are_dropped(self):
        store = Store(book_with("bare b"), 2)
        store.put("b", 0)
        store.put("b", 1)
        store.put("a", 0, {"p": 0})
        store.strike("b", 0)
        store.look(0, "spread p", [0])
        store.look(3, "spread p", [0])
        store.strike("b", 1)
        store.look(7, "fell b", [1])
        found = rest(store)
        self.assertEqual([found.lists(), rows_of(found)], [{}, {"a": [], "b": [], "c": []}])
        self.assertEqual(len(store.lists()), 3)

    def test_a_dropped_list_is_not_done(self):
        store = Store(book_with())
        store.put("b", 0)
        store.strike("b", 0)
        store.look(0, "fell b", [0])
        store.look(5, "fell b", [0])
        store.do(0)
        store.put("b", 0)
        self.assertEqual(rest(store).rows("b"), [(0, {"r": None}, None)])
        self.assertEqual([rest(store).wrongs(), rest(store).lists()], [[], {}])

    def test_the_one_list_of_a_lone_hand(self):
        store = Store(book_with("lone"))
        store.put("b", 0)
        store.put("c", 0, {"s": 0})
        store.strike("b", 0)
        store.look(12, "fell b", [0])
        self.assertEqual([rows_of(rest(store)), rest(store).lists()], [{"a": [], "b": [], "c": []}, {}])

    def test_wrongs_with_those_of_the_dos(self):
        store = Store(book_with())
        for number in (0, 1):
            store.put("b", number)
        store.strike("b", 0)
        for hand in (0, 1):
            store.look(hand, "fell b", [0])
        store.do(0)
        store.put("b", 0)
        store.do(1)
        store.put("a", 4, {"p": 1})
        store.strike("b", 1)
        work(store, "spread p", [4])
        store.turn("a", 4, "p", None)
        self.assertEqual(store.wrongs(), [("undue", "b", 0)])
        self.same_list(rest(store).wrongs(), [("undue", "b", 0), ("unjust", "p", 4)])
        self.assertEqual(store.wrongs(), [("undue", "b", 0)])
        self.assertEqual(rest(rest(store)).wrongs(), [("undue", "b", 0), ("unjust", "p", 4)])

    def test_stuck(self):
        store = self.ring(["bare a"])
        for number in (0, 1, 2, 3):
            store.put("a", number)
        for number, owner in [(0, 1), (1, 0), (2, 1)]:
            store.turn("a", number, "p", owner)
        store.strike("a", 0)
        self.assertIs(store.is_stuck(), False)
        found = rest(store)
        self.assertIs(found.is_stuck(), True)
        self.assertEqual(rows_of(found)["a"], [(0, {"p": 1}, "strike"), (1, {"p": 0}, "p"), (3, {}, None)])
        self.assertEqual(rows_of(whole(store))["a"], [(3, {}, None)])
        self.assertEqual(told(rest(found)), told(found))
        self.refuses(found, NoFit(0), found.look, 0, "fell a", [0])

    def test_calm_is_not_stuck(self):
        store = self.ring(["calm a"])
        for number in (0, 1):
            store.put("a", number)
        store.turn("a", 0, "p", 1)
        store.turn("a", 1, "p", 0)
        store.strike("a", 0)
        self.assertEqual([rest(store).rows("a"), rest(store).is_stuck()], [[], False])

    def test_bare_for_a_kind_of_another_column(self):
        """A row that refers by a clear column keeps no marked row from being felled for ever."""
        store = Store(book_with("bare a", "bare b", "again a", "again b", "hold p"))
        store.put("a", 0)
        store.put("b", 0, {"r": 0})
        store.put("a", 1, {"p": 0, "q": 0})
        store.strike("a", 0)
        store.strike("b", 0)
        self.assertEqual(rows_of(rest(store)), {"a": [], "b": [], "c": []})

    def test_owners_that_were_not_there_before(self):
        store = Store(book_with())
        store.put("b", 0)
        store.put("a", 0, {"p": 0})
        store.put("c", 0, {"s": 0})
        store.strike("b", 0)
        work(store, "fell b", [0])
        self.assertEqual(told(rest(store)), told(store))
        store.strike("a", 0)
        self.assertEqual(rows_of(rest(store)), {"a": [], "b": [], "c": [(0, {"s": 0}, None)]})

    def test_used_numbers(self):
        store = Store(book_with("fresh"))
        for number in (0, 1, 2):
            store.put("b", number)
        store.put("a", 6, {"p": 1})
        store.strike("b", 0)
        work(store, "fell b", [0])
        store.strike("b", 1)
        found = rest(store)
        self.refuses(found, Used("b", 0), found.put, "b", 0)
        self.refuses(found, Used("b", 1), found.put, "b", 1)
        self.refuses(found, Taken("b", 2), found.put, "b", 2)
        self.refuses(found, Used("a", 6), found.put, "a", 6)
        self.used_alone(rest, store)

    def test_rest_of_rest(self):
        store = Store(book_with())
        store.put("b", 0)
        store.put("a", 0, {"p": 0})
        store.put("c", 0)
        store.strike("b", 0)
        self.assertEqual(told(rest(rest(store))), told(rest(store)))

    def test_the_store_goes_on_alone(self):
        store = Store(book_with())
        store.put("b", 0)
        store.put("b", 1)
        store.put("a", 0, {"p": 0})
        store.put("a", 1, {"p": 1})
        store.put("c", 0, {"s": 1})
        store.strike("b", 0)
        store.look(2, "spread p", [0])
        self.goes_on_alone(rest, store)

    def test_by_name(self):
        store = Store(book_with())
        store.put("b", 0)
        store.strike("b", 0)
        self.assertEqual(rest(store=store), rest(store))

    def test_chains(self):
        store = Store(book_with("bare a"))
        store.put("a", 0)
        for number in range(1, 120):
            store.put("a", number, {"q": number - 1})
        store.strike("a", 1)
        self.assertEqual(rows_of(rest(store))["a"], [(0, {}, None)])

    def second_rest(self, store):
        """A second reading: deeds behind the store, each found anew."""
        found = store.copy()
        for hand in sorted(found.lists()):
            done(found, ("stop", hand))
        while True:
            fits = [(piece, found.fits(piece)) for piece in found.pieces()]
            fits = [(piece, numbers) for piece, numbers in fits if numbers]
            if not fits:
                return found
            piece, numbers = fits[0]
            done(found, ("look", 5, piece, numbers[:1]))
            self.assertEqual(done(found, ("do", 5)), numbers[:1])

    def test_drawn_stores(self):
        chance = random.Random(271)
        seen = {"wrongs": 0, "lists": 0, "stuck": 0, "rows": 0}
        for _ in range(400):
            store = drawn_store(chance, drawn_book(chance, chance.choice([None, True])))
            ahead = told(store)
            found = rest(store)
            self.assertEqual(told(store), ahead)
            self.assertEqual(told(found), told(self.second_rest(store)))
            self.assertEqual(told(rest(found)), told(found))
            self.assertEqual(found.wrongs()[:len(store.wrongs())], store.wrongs())
            seen["wrongs"] += len(found.wrongs()) > len(store.wrongs())
            seen["lists"] += len(store.lists()) > 0
            seen["stuck"] += found.is_stuck() and not store.is_stuck()
            seen["rows"] += all_rows(found) != all_rows(store)
        for word, many in seen.items():
            self.assertGreater(many, 1, word)


class Facts(Case):
    """The FACT of [27]: rest, whole, and any order of the pieces."""

    def in_any_order(self, chance, store):
        """The store to which pieces lead that are drawn, for as many rows as are drawn."""
        found = store.copy()
        for hand in found.lists():
            found.stop(hand)
        while True:
            fits = [(piece, found.fits(piece)) for piece in found.pieces() if found.fits(piece)]
            if not fits:
                return found
            piece, numbers = chance.choice(fits)
            chosen = chance.sample(numbers, chance.randint(1, min(len(numbers), found.size())))
            work(found, piece, chosen)

    def test_with_calm_or_bare_for_each_goal(self):
        chance = random.Random(272)
        seen = {True: 0, False: 0, "changed": 0}
        for _ in range(300):
            store = drawn_store(chance, with_held_goals(chance, drawn_book(chance, chance.choice([None, True]))))
            found = rest(store)
            for other in [found] + [self.in_any_order(chance, store) for _ in range(4)]:
                self.assertEqual(other.is_stuck(), found.is_stuck())
                if not found.is_stuck():
                    self.assertEqual(all_rows(other), all_rows(whole(store)), told(store))
            seen[found.is_stuck()] += 1
            seen["changed"] += all_rows(found) != all_rows(store)
        self.assertGreater(seen[True], 4)
        self.assertGreater(seen[False], 60)
        self.assertGreater(seen["changed"], 60)

    def test_without_them_another_order_leads_elsewhere(self):
        store = played(book_with(), [("put", "b", 0, ()), ("put", "a", 0, (("p", 0),)), ("strike", "b", 0)])
        self.assertEqual(rest(store), whole(store))
        work(store, "fell b", [0])
        self.assertNotEqual(rest(store).rows("a"), [])


if __name__ == "__main__":
    unittest.main()
