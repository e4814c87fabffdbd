"""What the document promises over the whole program: arguments by name, errors that change nothing, copies."""

import inspect
import itertools
import random
import unittest

from longstrike import errors
from longstrike.book_texts import read_book, write_book
from longstrike.books import Book
from longstrike.judging import judge
from longstrike.leasts import least
from longstrike.likeness import idle, parting
from longstrike.resting import rest, whole
from longstrike.stores import Store
from longstrike.tables import is_paper, ranks, table
from longstrike.weaving_texts import read_weaving, write_weaving
from longstrike.weavings import done, played, shows
from longstrike.yards import Yard
from tests.cases import Case, odd_things, told
from tests.drawing import drawn_book, drawn_deed, is_done
from tests.test_document import CLASSES, FUNCTIONS

KINDS = [("house", True), ("room", True)]
COLUMNS = [("of", "room", "house", "fall"), ("by", "room", "room", "clear")]
BOOK = Book(KINDS, COLUMNS, ["bare house"])
DEEDS = [
    ("put", "house", 0, ()), ("put", "house", 1, ()), ("put", "room", 4, (("of", 0),)),
    ("put", "room", 5, (("of", 1), ("by", 4))), ("strike", "house", 0), ("look", 1, "spread of", (4,)), ("do", 1),
    ("look", 1, "clear by", (5,)), ("stop", 1), ("look", 2, "fell room", (4,)),
]


def small_store():
    return played(BOOK, DEEDS, 2)


def small_yard():
    yard = Yard(BOOK, 2)
    for deed in DEEDS:
        yard.deed(deed)
    yard.undo()
    return yard


def told_of(thing):
    """What an object tells of itself, in a form that can be compared for sure."""
    if isinstance(thing, Book):
        return ["book", thing.kinds(), thing.columns(), thing.checks()]
    if isinstance(thing, Store):
        return ["store", *[told_of(part) for part in told(thing)]]
    if isinstance(thing, Yard):
        return ["yard", thing.weaving(), told_of(thing.store())]
    if isinstance(thing, ValueError):
        return [type(thing), vars(thing)]
    return thing


def outcome(call, *places, **names):
    try:
        return told_of(call(*places, **names))
    except ValueError as error:
        return told_of(error)


# The calls of the functions, with values for all of their arguments.
FUNCTION_CALLS = [
    (shows, {"store": small_store(), "question": "undue room"}), (shows, {"store": small_store(), "question": "no"}),
    (played, {"book": BOOK, "weaving": DEEDS, "size": 2}), (played, {"book": BOOK, "weaving": DEEDS, "size": 0}),
    (table, {"book": BOOK, "question": "loose of"}), (table, {"book": BOOK, "question": "stuck"}),
    (ranks, {"book": BOOK}),
    (is_paper, {"book": BOOK, "question": "stuck", "paper": [("house", 0)]}),
    (judge, {"book": BOOK, "question": "loose of"}), (judge, {"book": BOOK, "question": "lose of"}),
    (least, {"book": BOOK, "questions": ["loose of"], "free": ["lone", "again house"]}),
    (least, {"book": BOOK, "questions": ["loose of"], "free": ["alone"]}),
    (parting, {"one": BOOK, "other": BOOK + "again house"}), (parting, {"one": BOOK, "other": Book(KINDS)}),
    (idle, {"book": BOOK}),
    (whole, {"store": small_store()}), (rest, {"store": small_store()}),
    (write_book, {"book": BOOK}), (read_book, {"text": write_book(BOOK)}), (read_book, {"text": "kind A"}),
    (write_weaving, {"weaving": DEEDS}), (write_weaving, {"weaving": [None]}),
    (read_weaving, {"text": write_weaving(DEEDS)}), (read_weaving, {"text": "do"}),
    (done, {"store": small_store(), "deed": ("do", 77)}), (done, {"store": small_store(), "deed": "do"}),
    (Book, {"kinds": KINDS, "columns": COLUMNS, "checks": ["lone"]}),
    (Book, {"kinds": KINDS, "columns": COLUMNS, "checks": ["alone"]}),
    (Store, {"book": BOOK, "size": 3}), (Store, {"book": BOOK, "size": -3}),
    (Yard, {"book": BOOK, "size": 3}), (Yard, {"book": BOOK, "size": True}),
]

# The calls of the methods, each of an object that is made anew.
METHOD_CALLS = [
    (lambda: BOOK, "columns_of", {"kind": "room"}), (lambda: BOOK, "columns_of", {"kind": "key"}),
    (small_store, "put", {"kind": "room", "number": 9, "owners": {"of": 1}}),
    (small_store, "put", {"kind": "room", "number": 4, "owners": ()}),
    (small_store, "turn", {"kind": "room", "number": 5, "column": "of", "owner": 0}),
    (small_store, "turn", {"kind": "room", "number": 5, "column": "by", "owner": 5}),
    (small_store, "strike", {"kind": "room", "number": 5}), (small_store, "strike", {"kind": "room", "number": 6}),
    (small_store, "fits", {"piece": "fell room"}), (small_store, "fits", {"piece": "fall room"}),
    (small_store, "look", {"hand": 8, "piece": "clear by", "numbers": [5]}),
    (small_store, "look", {"hand": 8, "piece": "clear by", "numbers": [4]}),
    (small_store, "do", {"hand": 2}), (small_store, "do", {"hand": 1}),
    (small_store, "stop", {"hand": 2}), (small_store, "stop", {"hand": 1}),
    (small_store, "rows", {"kind": "room"}), (small_store, "rows", {"kind": "of"}),
    (small_store, "owner", {"kind": "room", "number": 5, "column": "by"}),
    (small_store, "owner", {"kind": "room", "number": 5, "column": "at"}),
    (small_store, "mark", {"kind": "room", "number": 4}), (small_store, "mark", {"kind": "room", "number": 0}),
    (small_store, "loose", {"column": "of"}), (small_store, "half", {"column": "room"}),
    (small_yard, "deed", {"deed": ("put", "house", 8, ())}), (small_yard, "deed", {"deed": ("do", 2)}),
    (small_yard, "since", {"question": "loose of"}), (small_yard, "since", {"question": "loose"}),
    (small_yard, "under", {"book": BOOK + "put of"}), (small_yard, "under", {"book": Book(KINDS)}),
    (small_yard, "rebooked", {"book": BOOK + "fresh"}), (small_yard, "rebooked", {"book": Book(KINDS)}),
    (small_yard, "trial", {"work": lambda yard: yard.deed(("put", "house", 8, ()))}),
]


def orders(names):
    return [dict(pairs) for pairs in itertools.permutations(names.items())]


class Arguments(Case):

    def test_each_function_is_called(self):
        listed = {name for functions in FUNCTIONS.values() for name in functions} | {name for _, name in CLASSES}
        self.assertEqual({call.__name__ for call, names in FUNCTION_CALLS}, listed)

    def test_each_method_with_arguments_is_called(self):
        listed = {(name, method) for (_, name), methods in CLASSES.items() for method, signature in methods.items()
                  if signature not in (None, "(self)") and method != "__init__"}
        called = {(type(make()).__name__, method) for make, method, names in METHOD_CALLS}
        self.assertEqual(called, listed)

    def test_functions_by_name_in_any_order(self):
        for call, names in FUNCTION_CALLS:
            self.assertEqual(list(inspect.signature(call).parameters), list(names))
            wanted = outcome(call, *names.values())
            for order in orders(names):
                self.assertEqual(outcome(call, **order), wanted, (call, list(order)))
            first, *others = names
            for order in orders({name: names[name] for name in others}):
                self.assertEqual(outcome(call, names[first], **order), wanted)

    def test_methods_by_name_in_any_order(self):
        for make, method, names in METHOD_CALLS:
            held = make()
            wanted = [outcome(getattr(held, method), *names.values()), told_of(held)]
            for order in orders(names):
                held = make()
                found = [outcome(getattr(held, method), **order), told_of(held)]
                self.assertEqual(found, wanted, (method, list(order)))

    def test_what_may_be_left_out(self):
        self.assertEqual(told_of(Book(kinds=KINDS)), told_of(Book(KINDS, (), ())))
        self.assertEqual(told_of(Book(checks=["lone"], kinds=KINDS)), told_of(Book(KINDS, (), ["lone"])))
        self.assertEqual([Store(BOOK).size(), Yard(BOOK).store().size(), played(BOOK, []).size()], [1, 1, 1])
        store = Store(BOOK)
        store.put("room", 0)
        store.put(number=1, kind="room")
        self.assertEqual([row[1] for row in store.rows("room")], [{"of": None, "by": None}] * 2)

    def test_lists_for_tuples_and_tuples_for_lists(self):
        columns = (["of", "room", "house", "fall"], ["by", "room", "room", "clear"])
        book = Book((["house", True], ["room", True]), columns, ("bare house",))
        self.assertEqual(told_of(book), told_of(BOOK))
        store = Store(BOOK, 2)
        store.put("house", 0, [])
        store.put("room", 1, [("of", 0)])
        store.put("room", 2, (["of", 0], ["by", 1]))
        store.strike("house", 0)
        store.look(0, "spread of", (2, 1))
        self.assertEqual(store.do(0), [2, 1])
        self.assertEqual(least(BOOK, ("loose of",), ("again house",)), [["again house"]])
        self.assertIs(is_paper(BOOK, "stuck", (["house", 0],)), True)

    def test_what_is_passed_stays(self):
        weaving = [list(deed) for deed in DEEDS]
        kept = [list(deed) for deed in DEEDS]
        played(BOOK, weaving, 2)
        write_weaving(weaving)
        self.assertEqual(weaving, kept)
        kinds, columns, checks = [list(kind) for kind in KINDS], [list(column) for column in COLUMNS], ["lone", "lone"]
        book = Book(kinds, columns, checks)
        self.assertEqual([[tuple(kind) for kind in kinds], [tuple(column) for column in columns]], [KINDS, COLUMNS])
        self.assertEqual(checks, ["lone", "lone"])
        kinds[0][0], columns[0][3], checks[0] = "x", "y", "z"
        kinds.clear()
        self.assertEqual(told_of(book), ["book", KINDS, COLUMNS, ["lone"]])
        questions, free = ["loose of"], ["lone", "again house", "lone"]
        least(BOOK, questions, free)
        self.assertEqual([questions, free], [["loose of"], ["lone", "again house", "lone"]])


class Unchanged(Case):
    """A call that raises an error changes nothing."""

    def test_drawn_deeds_that_are_refused(self):
        chance = random.Random(321)
        refused = 0
        for _ in range(40):
            book = drawn_book(chance, chance.choice([None, True]))
            store, yard = Store(book, 2), Yard(book, 2)
            for _ in range(60):
                deed = drawn_deed(chance, store)
                ahead = [told_of(store), told_of(yard)]
                if is_done(store, deed):
                    yard.deed(deed)
                else:
                    with self.assertRaises(errors.StrikeError):
                        yard.deed(deed)
                    self.assertEqual([told_of(store), told_of(yard)], ahead)
                    refused += 1
            self.assertEqual(told_of(yard.store()), told_of(store))
        self.assertGreater(refused, 300)

    def test_any_object_at_any_place(self):
        """Any object as a number, a kind, a column or a piece: an error of the package, and nothing is changed."""
        calls = [(make, method, names) for make, method, names in METHOD_CALLS if make is small_store]
        for make, method, names in calls:
            for name in names:
                if name == "owners":
                    continue
                for thing in odd_things():
                    if name == "owner" and thing is None or name == "numbers" and thing in ([0], (0,)):
                        continue
                    held = make()
                    ahead = told_of(held)
                    found = outcome(getattr(held, method), **{**names, name: thing})
                    self.assertIsInstance(found, list, (method, name, thing))
                    self.assertTrue(issubclass(found[0], errors.StrikeError), (method, name, thing))
                    self.assertEqual(told_of(held), ahead)


class Alone(Case):
    """What is made of a store or a yard shares nothing with it."""

    def changed(self, store):
        """Change all that a store keeps, and what it returns."""
        store.rows("room")[0][1]["of"] = 99
        for hand in list(store.lists()):
            store.do(hand)
        store.lists().clear()
        store.wrongs().append(0)
        for number, owners, mark in store.rows("room"):
            store.turn("room", number, "of", None)
        store.strike("house", 1)
        store.put("house", 77)

    def makers(self):
        yard = small_yard()
        store = small_store()
        return [
            (lambda: whole(store), lambda: told_of(store)), (lambda: rest(store), lambda: told_of(store)),
            (store.copy, lambda: told_of(store)), (yard.store, lambda: told_of(yard)),
            (lambda: yard.copy().store(), lambda: told_of(yard)),
            (lambda: yard.rebooked(BOOK).store(), lambda: told_of(yard)),
            (lambda: yard.trial(lambda held: held.store()), lambda: told_of(yard)),
        ]

    def test_what_is_made_goes_on_alone(self):
        for make, tell in self.makers():
            ahead = tell()
            one, other = make(), make()
            self.assertEqual(told_of(one), told_of(other))
            behind = told_of(other)
            self.changed(one)
            self.assertNotEqual(told_of(one), behind)
            self.assertEqual([told_of(other), tell(), told_of(make())], [behind, ahead, behind])

    def test_what_they_are_made_of_goes_on_alone(self):
        for call in (whole, rest, lambda store: store.copy()):
            store = small_store()
            found = call(store)
            behind = told_of(found)
            self.changed(store)
            self.assertEqual(told_of(found), behind)
        for call in (lambda yard: yard.copy(), lambda yard: yard.rebooked(BOOK), lambda yard: yard.store()):
            yard = small_yard()
            found = call(yard)
            behind = told_of(found)
            yard.undo()
            yard.deed(("put", "house", 8, ()))
            yard.deed(("turn", "room", 5, "of", 8))
            self.assertEqual(told_of(found), behind)


if __name__ == "__main__":
    unittest.main()
