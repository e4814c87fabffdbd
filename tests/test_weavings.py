"""Promises [15] and [16]: questions at stores, deeds, and weavings."""

import unittest

from longstrike.books import Book
from longstrike.errors import (
    BadDeed, BadList, BadNumber, BadPiece, BadQuestion, BadWeaving, Busy, Idle, NoFit, NoRow, NotOpen, OwnOwner,
    Refused, Taken, UnknownColumn, UnknownKind, Used,
)
from longstrike.stores import Store
from longstrike.weavings import done, played, shows
from tests.cases import Case, odd_things, told

KINDS = [("a", True), ("b", True), ("c", False)]
COLUMNS = [("y", "a", "b", "fall"), ("z", "a", "b", "clear"), ("x", "b", "b", "fall")]


def book_with(*checks):
    return Book(KINDS, COLUMNS, checks)


UNDUE = [
    ("put", "b", 0, ()), ("strike", "b", 0), ("look", 0, "fell b", (0,)), ("look", 1, "fell b", (0,)), ("do", 0),
    ("put", "b", 0, ()), ("do", 1),
]
UNJUST = [
    ("put", "b", 0, ()), ("put", "a", 0, (("y", 0),)), ("strike", "b", 0), ("look", 0, "spread y", (0,)), ("do", 0),
    ("turn", "a", 0, "y", None), ("look", 0, "fell a", (0,)), ("do", 0),
]
SPOILT = [
    ("put", "b", 0, ()), ("put", "b", 1, ()), ("put", "a", 0, (("z", 0),)), ("strike", "b", 0),
    ("look", 0, "clear z", (0,)), ("turn", "a", 0, "z", 1), ("do", 0),
]
LOOSE = [
    ("put", "b", 0, ()), ("put", "a", 0, (("y", 0),)), ("strike", "b", 0), ("look", 0, "fell b", (0,)), ("do", 0),
]
STUCK = [
    ("put", "b", 0, ()), ("put", "b", 1, (("x", 0),)), ("turn", "b", 0, "x", 1), ("strike", "b", 0),
    ("look", 0, "spread x", (1,)), ("do", 0),
]


def shown(store):
    """The questions of a store whose faults it shows."""
    return [question for question in store.book().questions() if shows(store, question)]


class Shows(Case):
    """[15]"""

    def test_nothing(self):
        store = Store(book_with())
        self.assertEqual(shown(store), [])
        for question in store.book().questions():
            self.assertIs(shows(store, question), False)

    def test_each_fault(self):
        self.assertEqual(shown(played(book_with(), UNDUE)), ["undue b"])
        self.assertEqual(shown(played(book_with(), UNJUST)), ["unjust y"])
        self.assertEqual(shown(played(book_with(), SPOILT)), ["spoilt z"])
        self.assertEqual(shown(played(book_with(), LOOSE)), ["loose y", "half y"])
        self.assertEqual(shown(played(book_with("bare b"), STUCK)), ["stuck"])
        for weaving, question in ((UNDUE, "undue b"), (UNJUST, "unjust y"), (SPOILT, "spoilt z"), (LOOSE, "half y")):
            self.assertIs(shows(played(book_with(), weaving), question), True)
            self.assertIs(shows(played(book_with(), weaving[:-1]), question), False)
        self.assertIs(shows(played(book_with("bare b"), STUCK), "stuck"), True)
        self.assertIs(shows(played(book_with("bare b"), STUCK[:-1]), "stuck"), False)

    def test_half_alone(self):
        store = played(book_with(), [*LOOSE, ("strike", "a", 0)])
        self.assertEqual(shown(store), ["half y"])

    def test_wrongs_stay_and_what_stands_may_go(self):
        self.assertEqual(shown(played(book_with(), [*UNDUE, ("put", "b", 0, ())])), ["undue b"])
        self.assertEqual(shown(played(book_with(), [*LOOSE, ("put", "b", 0, ())])), [])

    def test_by_the_word_and_the_name(self):
        store = played(book_with(), UNDUE)
        for deed in [("put", "a", 0, ()), ("strike", "a", 0), ("look", 0, "fell a", [0]), ("do", 0)]:
            done(store, deed)
        self.assertEqual(shown(store), ["undue b"])
        self.assertIs(shows(store, "undue a"), False)

    def test_bad_questions(self):
        store = played(book_with(), UNDUE)
        things = ["spoilt y", "unjust z", "loose a", "undue y", "loose", "stuck ", "undue  b", "undue b ", "Stuck"]
        for thing in odd_things() + things + ["loose of", "again y", 0, ["stuck"], ("undue", "b")]:
            self.refuses(store, BadQuestion(thing), shows, store, thing)

    def test_by_names(self):
        self.assertIs(shows(question="undue b", store=played(book_with(), UNDUE)), True)


class Done(Case):
    """[16], done"""

    def test_each_deed_as_the_method_does_it(self):
        store, twin = Store(book_with(), 2), Store(book_with(), 2)
        pairs = [
            (("put", "b", 0, ()), lambda: twin.put("b", 0)),
            (("put", "b", 1, (("x", 0),)), lambda: twin.put("b", 1, {"x": 0})),
            (("put", "a", 0, (("z", 1), ("y", 0))), lambda: twin.put("a", 0, {"y": 0, "z": 1})),
            (("put", "a", 1, (("z", 1), ("y", 1))), lambda: twin.put("a", 1, {"y": 1, "z": 1})),
            (("put", "c", 0, ()), lambda: twin.put("c", 0)),
            (("turn", "a", 0, "z", 0), lambda: twin.turn("a", 0, "z", 0)),
            (("turn", "a", 0, "z", None), lambda: twin.turn("a", 0, "z", None)),
            (("strike", "b", 0), lambda: twin.strike("b", 0)),
            (("look", 5, "spread y", (0,)), lambda: twin.look(5, "spread y", (0,))),
            (("look", 6, "spread x", (1,)), lambda: twin.look(6, "spread x", (1,))),
            (("stop", 6), lambda: twin.stop(6)),
            (("do", 5), lambda: twin.do(5)),
        ]
        for deed, method in pairs:
            other = store.copy()
            result = method()
            self.assertEqual(done(store, deed), result, deed)
            self.assertEqual(result, [0] if deed[0] == "do" else None)
            self.assertEqual(store, twin, deed)
            self.assertEqual(done(other, as_lists(deed)), result)
            self.assertEqual(other, twin)

    def test_what_is_given_stays(self):
        store = Store(book_with())
        deed = ["put", "a", 0, [["y", 0]]]
        self.fails(NoRow("b", 0), done, store, deed)
        done(store, ["put", "b", 0, []])
        done(store, deed)
        store.turn("a", 0, "y", None)
        self.assertEqual(deed, ["put", "a", 0, [["y", 0]]])

    def test_bad_deeds(self):
        store = played(book_with(), UNDUE[:-1])
        bad = [
            ("put", "b", 5), ("put", "b", 5, (), ()), ("put",), ("turn", "b", 0, "x"), ("turn", "b", 0, "x", None, None),
            ("strike", "b"), ("strike", "b", 0, 0), ("look", 0, "fell b"), ("look", 0, "fell b", (0,), ()),
            ("do",), ("do", 1, 1), ("stop",), ("stop", 1, 1), ("Do", 1), ("done", 1), ("", 1), (1, "do"), "do", "put",
            {"do": 1}, (["do"], 1), (None, 1), (("do", 1),), [], (), ("do1",), ({}, 1), (True, 1), ("size",), ("mark", "b", 0),
        ]
        for thing in odd_things() + bad:
            self.refuses(store, BadDeed(), done, store, thing)

    def test_bad_owners_of_a_put(self):
        store = Store(book_with())
        store.put("b", 0)
        bad = [
            {"y": 0}, {}, None, "y", 0, [("y",)], [("y", 0, 0)], ["y0"], [{"y": 0}], [("y", None)], [("y", True)],
            [("y", -1)], [("y", "0")], [(0, "y")], [(0, 0)], [(None, 0)], [(("y",), 0)], [("y", [0])], [("y", 0), ("y", 0)],
            [("y", 0), ("y", 1)], [("y", 0), ("z", 1), ("y", 2)], [("none", 0), ("none", 0)], [("y", 0), None], [[]], [()], True, store,
        ]
        for thing in bad:
            self.refuses(store, BadDeed(), done, store, ("put", "a", 0, thing))
            self.refuses(store, BadDeed(), done, store, ["put", "nothing", -1, thing])

    def test_nothing_else_is_looked_at(self):
        store = Store(book_with())
        for thing in odd_things():
            self.refuses(store, UnknownKind(thing), done, store, ("put", thing, thing, (("none", 7),)))
            self.refuses(store, BadNumber(thing), done, store, ("put", "b", thing, (("none", 7),)))
            self.refuses(store, UnknownKind(thing), done, store, ("turn", thing, thing, thing, thing))
            self.refuses(store, UnknownKind(thing), done, store, ("strike", thing, thing))
            self.refuses(store, BadNumber(thing), done, store, ("look", thing, thing, thing))
            self.refuses(store, BadPiece(thing), done, store, ("look", 0, thing, thing))
            self.refuses(store, BadNumber(thing), done, store, ("do", thing))
            self.refuses(store, BadNumber(thing), done, store, ("stop", thing))
        store.put("b", 0)
        store.strike("b", 0)
        for thing in odd_things():
            if thing not in ([0], (0,)):
                self.refuses(store, BadList(thing), done, store, ("look", 0, "fell b", thing))

    def test_the_errors_of_the_methods(self):
        store = Store(book_with("lone", "fresh", "put y", "hold y"))
        for deed in [("put", "b", 0, ()), ("put", "b", 1, ()), ("put", "c", 0, ()), ("put", "a", 0, (("y", 1),)),
                     ("strike", "b", 0), ("look", 3, "fell b", (0,)), ("do", 3), ("strike", "b", 1), ("strike", "a", 0),
                     ("look", 3, "fell b", (1,))]:
            done(store, deed)
        self.refuses(store, Taken("b", 1), done, store, ("put", "b", 1, ()))
        self.refuses(store, Used("b", 0), done, store, ("put", "b", 0, ()))
        self.refuses(store, UnknownColumn("y"), done, store, ("put", "b", 2, (("y", 0),)))
        self.refuses(store, NoRow("b", 0), done, store, ("put", "a", 2, (("y", 0),)))
        self.refuses(store, Refused("put y"), done, store, ("put", "a", 2, (("y", 1),)))
        self.refuses(store, Refused("hold y"), done, store, ("turn", "a", 0, "y", 1))
        self.refuses(store, OwnOwner("x"), done, store, ("turn", "b", 1, "x", 1))
        self.refuses(store, NotOpen("c"), done, store, ("strike", "c", 0))
        self.refuses(store, Busy(3), done, store, ("look", 3, "fell b", (1,)))
        self.refuses(store, Refused("lone"), done, store, ("look", 4, "fell b", (1,)))
        self.refuses(store, Idle(4), done, store, ("do", 4))
        self.refuses(store, Idle(4), done, store, ("stop", 4))
        done(store, ("stop", 3))
        self.refuses(store, NoFit(2), done, store, ("look", 3, "fell b", (2,)))

    def test_by_names(self):
        store = Store(book_with())
        self.assertIsNone(done(deed=("put", "b", 0, ()), store=store))
        self.assertIsNone(store.mark("b", 0))


def as_lists(deed):
    return [as_lists(item) if isinstance(item, tuple) else item for item in deed]


class Played(Case):
    """[16], played"""

    def test_no_deeds(self):
        self.assertEqual(played(book_with(), []), Store(book_with()))
        self.assertEqual(played(book_with(), (), 3), Store(book_with(), 3))

    def test_deeds(self):
        store = Store(book_with())
        for deed in UNDUE:
            done(store, deed)
        for weaving in (UNDUE, tuple(UNDUE), as_lists(tuple(UNDUE))):
            self.assertEqual(told(played(book_with(), weaving)), told(store))
        self.assertEqual(store.wrongs(), [("undue", "b", 0)])

    def test_sizes(self):
        weaving = [("put", "b", 0, ()), ("put", "b", 1, ()), ("strike", "b", 0), ("strike", "b", 1)]
        weaving.append(("look", 0, "fell b", (1, 0)))
        self.fails(BadWeaving(4), played, book_with(), weaving)
        self.assertEqual(played(book_with(), weaving, 2).lists(), {0: ("fell b", (1, 0))})

    def test_bad_sizes(self):
        for thing in odd_things() + [0]:
            self.fails(BadNumber(thing), played, book_with(), None, thing)
            self.fails(BadNumber(thing), played, book_with(), UNDUE, thing)

    def test_bad_weavings(self):
        for thing in odd_things() + [0, "put", {"put": 1}, {}]:
            if not isinstance(thing, (list, tuple)):
                self.fails(BadWeaving(0), played, book_with(), thing)

    def test_bad_deeds(self):
        for index in range(len(UNDUE) + 1):
            for thing in [None, (), ("do", 7), ("put", "a", 0, {}), "do", ("strike", "none", [])]:
                self.fails(BadWeaving(index), played, book_with(), [*UNDUE[:index], thing, None, *UNDUE[index:]])

    def test_errors_of_the_checks(self):
        for check, index in (("lone", 3), ("fresh", 5)):
            self.fails(BadWeaving(index), played, book_with(check), UNDUE)
        self.fails(BadWeaving(5), played, book_with("hold y"), UNJUST)

    def test_what_is_given_stays(self):
        weaving = as_lists(tuple(SPOILT))
        played(book_with(), weaving)
        self.assertEqual(weaving, as_lists(tuple(SPOILT)))

    def test_by_names(self):
        store = played(size=2, weaving=UNDUE, book=book_with())
        self.assertEqual([store.size(), store.wrongs()], [2, [("undue", "b", 0)]])
        self.assertEqual(played(weaving=[], book=book_with()).size(), 1)


if __name__ == "__main__":
    unittest.main()
