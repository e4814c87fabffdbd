"""Promises [28] and [29]: yards, with what is taken back and done again, and yards looked at."""

import random
import unittest

from longstrike.books import Book
from longstrike.errors import (
    BadDeed, BadList, BadNumber, BadPiece, BadQuestion, Busy, Idle, NoFit, NoRow, NotOpen, NothingToRedo, NothingToUndo,
    OwnOwner, Refused, StrikeError, Taken, UnknownColumn, UnknownKind, UnlikeBooks, Used,
)
from longstrike.judging import judge
from longstrike.likeness import parting
from longstrike.stores import Store
from longstrike.weavings import done, played, shows
from longstrike.yards import Yard
from tests.cases import Case, odd_things, told
from tests.drawing import drawn_book, drawn_deed, drawn_neighbour, is_done

KINDS = [("a", True), ("b", True), ("c", False)]
COLUMNS = [("y", "a", "b", "fall"), ("z", "a", "b", "clear"), ("x", "b", "b", "fall")]

# The deeds of a yard, as they are told.
DEEDS = [
    ("put", "b", 0, ()), ("put", "b", 1, (("x", 0),)), ("put", "a", 7, (("y", 0), ("z", 1))), ("put", "c", 3, ()),
    ("turn", "a", 7, "z", 0), ("strike", "b", 0), ("look", 2, "spread y", (7,)), ("turn", "a", 7, "z", None),
    ("look", 4, "spread x", (1,)), ("do", 2), ("stop", 4),
]
UNDUE = [
    ("put", "b", 0, ()), ("strike", "b", 0), ("look", 0, "fell b", (0,)), ("look", 1, "fell b", (0,)), ("do", 0),
    ("put", "b", 0, ()), ("do", 1),
]
LOOSE = [
    ("put", "b", 0, ()), ("put", "a", 0, (("y", 0),)), ("strike", "b", 0), ("look", 0, "fell b", (0,)), ("do", 0),
]
SPOILT = [
    ("put", "b", 0, ()), ("put", "b", 1, ()), ("put", "a", 0, (("z", 0),)), ("strike", "b", 0),
    ("look", 0, "clear z", (0,)), ("turn", "a", 0, "z", 1), ("do", 0),
]
UNJUST = [
    ("put", "b", 0, ()), ("put", "a", 0, (("y", 0),)), ("strike", "b", 0), ("look", 0, "spread y", (0,)), ("do", 0),
    ("turn", "a", 0, "y", None), ("look", 0, "fell a", (0,)), ("do", 0),
]
STUCK = [
    ("put", "b", 0, ()), ("put", "b", 1, (("x", 0),)), ("turn", "b", 0, "x", 1), ("strike", "b", 0),
    ("look", 0, "spread x", (1,)), ("do", 0),
]
OTHERS = [
    Book(KINDS, COLUMNS[:2]), Book(KINDS, [COLUMNS[1], COLUMNS[0], COLUMNS[2]]),
    Book([KINDS[1], KINDS[0], KINDS[2]], COLUMNS),
    Book([("a", True), ("b", False), ("c", False)], COLUMNS), Book(KINDS, [*COLUMNS[:2], ("x", "b", "b", "clear")]),
    Book([("a", True)]), Book(KINDS), Book(KINDS + [("d", True)], COLUMNS),
]


def book_with(*checks):
    return Book(KINDS, COLUMNS, checks)


def yard_with(deeds, *checks, size=1):
    yard = Yard(book_with(*checks), size)
    for deed in deeds:
        yard.deed(deed)
    return yard


def as_lists(thing):
    return [as_lists(item) for item in thing] if isinstance(thing, (list, tuple)) else thing


def redone(yard):
    """The deeds that a yard can do again, in their order; the yard itself does none."""
    twin = yard.copy()
    many = len(twin)
    while True:
        try:
            twin.redo()
        except NothingToRedo:
            return twin.weaving()[many:]


def yard_told(yard):
    """All that a yard tells of itself, as it is now."""
    return [yard.weaving(), len(yard), told(yard.store()), yard.book(), redone(yard)]


class YardCase(Case):

    def stays(self, yard, error, call, *places, **names):
        """The call raises this error, and leaves the yard as it is."""
        ahead = yard_told(yard)
        self.fails(error, call, *places, **names)
        self.assertEqual(yard_told(yard), ahead)

    def is_as_played(self, yard, deeds, undone=()):
        """The weaving is this one, the store is the one it makes, and these deeds can be done again."""
        self.same_list(yard.weaving(), list(deeds))
        self.assertEqual(repr(yard.weaving()), repr(list(deeds)))
        self.assertEqual(len(yard), len(deeds))
        self.assertEqual(told(yard.store()), told(played(yard.book(), list(deeds), yard.store().size())))
        self.assertEqual(redone(yard), list(undone))


class Made(YardCase):
    """[28]: new yards"""

    def test_without_rows(self):
        yard = Yard(book_with("lone"))
        self.assertEqual([yard.weaving(), len(yard), yard.book()], [[], 0, book_with("lone")])
        self.assertEqual(told(yard.store()), told(Store(book_with("lone"))))

    def test_sizes(self):
        for size in (1, 2, 10 ** 29):
            self.assertEqual(Yard(book_with(), size).store().size(), size)
        self.assertEqual(Yard(book_with()).store().size(), 1)

    def test_bad_sizes(self):
        for thing in odd_things() + [0, -1, "1", (1,), Yard(book_with())]:
            self.fails(BadNumber(thing), Yard, book_with(), thing)
            self.fails(BadNumber(thing), Yard, size=thing, book=book_with())

    def test_by_names(self):
        yard = Yard(size=3, book=book_with("fresh"))
        self.assertEqual([yard.store().size(), yard.book()], [3, book_with("fresh")])
        self.assertEqual(Yard(book=book_with()).store().size(), 1)


class Deeds(YardCase):
    """[28]: deeds"""

    def test_each_deed(self):
        yard, store = Yard(book_with(), 2), Store(book_with(), 2)
        for index, deed in enumerate(DEEDS):
            self.assertEqual(yard.deed(deed), done(store, deed))
            self.assertEqual(told(yard.store()), told(store))
            self.is_as_played(yard, DEEDS[:index + 1])

    def test_what_is_returned(self):
        yard = Yard(book_with(), 3)
        results = [yard.deed(deed) for deed in DEEDS]
        self.assertEqual(results, [None] * 9 + [[7], None])
        yard = yard_with(UNDUE[:4], "again b")
        yard.deed(("do", 0))
        self.assertEqual(yard.deed(("do", 1)), [])

    def test_in_place(self):
        yard = other = Yard(book_with(), 2)
        for index, deed in enumerate(DEEDS):
            yard += deed
            self.assertIs(yard, other)
            self.is_as_played(yard, DEEDS[:index + 1])

    def test_in_place_with_errors(self):
        yard = yard_with(DEEDS)

        def add(deed):
            nonlocal yard
            yard += deed

        for thing in odd_things() + ["put", ("put", "a", 0, {"y": 0}), ("do",), yard]:
            self.stays(yard, BadDeed(), add, thing)
        self.stays(yard, Idle(2), add, ("do", 2))
        self.stays(yard, Taken("a", 7), add, ("put", "a", 7, ()))
        add(("put", "a", 8, ()))
        self.is_as_played(yard, [*DEEDS, ("put", "a", 8, ())])

    def test_bad_deeds(self):
        yard = yard_with(DEEDS)
        yard.undo()
        bad = [
            ("put", "b", 5), ("put",), ("turn", "b", 0, "x"), ("strike", "b"), ("look", 0, "fell b"), ("do",),
            ("stop", 1, 1), ("Do", 1), "do", {"do": 1}, (["do"], 1), [], (),
            ("put", "a", 9, {"y": 0}), ("put", "a", 9, [("y", None)]),
            ("put", "a", 9, [("y", 0), ("y", 0)]), ("put", "a", 9, None), yard, Yard(book_with()),
        ]
        for thing in odd_things() + bad:
            self.stays(yard, BadDeed(), yard.deed, thing)

    def test_the_errors_of_the_methods(self):
        yard = yard_with([
            ("put", "b", 0, ()), ("put", "b", 1, ()), ("put", "c", 0, ()), ("put", "a", 0, (("y", 1),)),
            ("strike", "b", 0), ("look", 3, "fell b", (0,)), ("do", 3), ("strike", "b", 1), ("strike", "a", 0),
            ("look", 3, "fell b", (1,)), ("stop", 3), ("look", 3, "fell a", (0,)),
        ], "lone", "fresh", "put y", "hold y")
        yard.undo()
        yard.undo()
        self.stays(yard, UnknownKind("d"), yard.deed, ("put", "d", 0, ()))
        self.stays(yard, BadNumber(-1), yard.deed, ("put", "b", -1, ()))
        self.stays(yard, BadNumber(True), yard.deed, ("put", "b", True, ()))
        self.stays(yard, Taken("b", 1), yard.deed, ("put", "b", 1, ()))
        self.stays(yard, Used("b", 0), yard.deed, ("put", "b", 0, ()))
        self.stays(yard, UnknownColumn("y"), yard.deed, ("put", "b", 2, (("y", 0),)))
        self.stays(yard, NoRow("b", 0), yard.deed, ("put", "a", 2, (("y", 0),)))
        self.stays(yard, Refused("put y"), yard.deed, ("put", "a", 2, (("y", 1),)))
        self.stays(yard, Refused("hold y"), yard.deed, ("turn", "a", 0, "y", 1))
        self.stays(yard, OwnOwner("x"), yard.deed, ("turn", "b", 1, "x", 1))
        self.stays(yard, NotOpen("c"), yard.deed, ("strike", "c", 0))
        self.stays(yard, Busy(3), yard.deed, ("look", 3, "fell b", (1,)))
        self.stays(yard, Refused("lone"), yard.deed, ("look", 4, "fell b", (1,)))
        self.stays(yard, Idle(4), yard.deed, ("do", 4))
        self.stays(yard, Idle(4), yard.deed, ("stop", 4))
        yard.deed(("stop", 3))
        self.stays(yard, BadPiece("fell"), yard.deed, ("look", 3, "fell", (1,)))
        self.stays(yard, BadList((1, 1)), yard.deed, ("look", 3, "fell b", (1, 1)))
        self.stays(yard, NoFit(2), yard.deed, ("look", 3, "fell b", (2,)))

    def test_by_name(self):
        yard = Yard(book_with())
        self.assertIsNone(yard.deed(deed=("put", "b", 0, ())))
        self.is_as_played(yard, [("put", "b", 0, ())])


class Told(YardCase):
    """[28]: weaving, len, store, book"""

    def test_tuples_throughout(self):
        yard = yard_with(as_lists(DEEDS), size=2)
        self.is_as_played(yard, DEEDS)
        yard = Yard(book_with(), 2)
        for deed in as_lists(DEEDS):
            yard += tuple(deed)
        self.is_as_played(yard, DEEDS)

    def test_lists_for_tuples_in_part(self):
        yard = yard_with(UNDUE[:2], size=2)
        yard.deed(("look", 0, "fell b", [0]))
        yard.deed(["put", "a", 0, (["z", 0], ("y", 0))])
        yard.deed(("put", "a", 1, [("y", 0)]))
        self.is_as_played(yard, [*UNDUE[:3], ("put", "a", 0, (("y", 0), ("z", 0))), ("put", "a", 1, (("y", 0),))])

    def test_owners_in_the_order_of_the_columns(self):
        rules = [("m", "fall"), ("c", "clear"), ("x", "fall"), ("b", "clear")]
        book = Book([("a", True), ("z", False)], [(name, "a", "a", rule) for name, rule in rules])
        owners = {"m": 1, "c": 2, "x": 1, "b": 2}
        for order in (["b", "c", "m", "x"], ["x", "b", "m", "c"], ["b", "x"], ["c"], ["b", "c", "m"], []):
            yard = Yard(book)
            yard.deed(("put", "a", 1, ()))
            yard.deed(("put", "a", 2, ()))
            yard.deed(("put", "a", 3, [(name, owners[name]) for name in order]))
            wanted = tuple((name, owners[name]) for name in ["m", "c", "x", "b"] if name in order)
            self.assertEqual(yard.weaving()[2], ("put", "a", 3, wanted))
            yard.undo()
            yard.redo()
            self.assertEqual(yard.weaving()[2], ("put", "a", 3, wanted))
            self.assertEqual(yard.rebooked(book).weaving()[2], ("put", "a", 3, wanted))

    def test_numbers_of_a_look_in_their_order(self):
        yard = Yard(book_with(), 3)
        for number in (0, 1, 2):
            yard.deed(("put", "b", number, ()))
            yard.deed(("strike", "b", number))
        yard.deed(["look", 0, "fell b", [2, 0, 1]])
        self.assertEqual(yard.weaving()[-1], ("look", 0, "fell b", (2, 0, 1)))
        self.assertEqual(yard.deed(("do", 0)), [2, 0, 1])

    def test_what_is_given_stays_ones_own(self):
        yard = yard_with(DEEDS[:6], size=2)
        numbers, pairs = [7], [["z", 1], ["y", 1]]
        deeds = [["look", 2, "spread y", numbers], ["put", "a", 8, pairs]]
        for deed in deeds:
            yard.deed(deed)
        self.assertEqual(deeds, [["look", 2, "spread y", [7]], ["put", "a", 8, [["z", 1], ["y", 1]]]])
        wanted = yard_told(yard)
        numbers.append(9)
        pairs[0][1] = 0
        pairs.clear()
        for deed in deeds:
            deed.clear()
        self.assertEqual(yard_told(yard), wanted)

    def test_what_is_told_is_ones_own(self):
        yard = yard_with(DEEDS)
        yard.undo()
        wanted = yard_told(yard)
        weaving = yard.weaving()
        weaving[0] = None
        weaving.clear()
        store = yard.store()
        store.put("a", 90)
        store.stop(4)
        store.turn("a", 7, "y", None)
        self.assertEqual(yard_told(yard), wanted)
        store, weaving = yard.store(), yard.weaving()
        ahead = told(store)
        yard.redo()
        yard.deed(("put", "c", 55, ()))
        self.assertEqual([told(store), weaving], [ahead, DEEDS[:-1]])

    def test_the_list_of_a_do_is_ones_own(self):
        yard = yard_with(DEEDS[:9], size=2)
        yard.deed(("do", 4)).append(99)
        self.is_as_played(yard, [*DEEDS[:9], ("do", 4)])

    def test_length(self):
        yard = Yard(book_with())
        for index, deed in enumerate(DEEDS):
            self.assertEqual(len(yard), index)
            yard.deed(deed)
        self.assertEqual(len(yard), len(DEEDS))
        yard.undo()
        self.assertEqual(len(yard), len(DEEDS) - 1)

    def test_the_store_with_all_that_it_keeps(self):
        yard = yard_with(UNDUE, "put y", size=4)
        store = yard.store()
        self.assertEqual([store.wrongs(), store.size(), store.book()], [[("undue", "b", 0)], 4, book_with("put y")])
        fresh = yard_with(UNDUE[:5], "fresh")
        self.fails(Used("b", 0), fresh.store().put, "b", 0)


class Backwards(YardCase):
    """[28]: undo and redo"""

    def test_one(self):
        yard = yard_with(DEEDS[:2])
        self.assertIsNone(yard.undo())
        self.is_as_played(yard, DEEDS[:1], DEEDS[1:2])
        self.assertIsNone(yard.redo())
        self.is_as_played(yard, DEEDS[:2])

    def test_all(self):
        yard = yard_with(DEEDS, size=2)
        for index in range(len(DEEDS) - 1, -1, -1):
            yard.undo()
            self.is_as_played(yard, DEEDS[:index], DEEDS[index:])
        self.assertEqual(yard, Yard(book_with(), 2))
        for index in range(len(DEEDS)):
            yard.redo()
            self.is_as_played(yard, DEEDS[:index + 1], DEEDS[index + 1:])

    def test_nothing_to_undo(self):
        yard = Yard(book_with())
        self.stays(yard, NothingToUndo(), yard.undo)
        yard = yard_with(DEEDS[:2])
        yard.undo()
        yard.undo()
        self.stays(yard, NothingToUndo(), yard.undo)
        self.is_as_played(yard, [], DEEDS[:2])

    def test_nothing_to_redo(self):
        yard = Yard(book_with())
        self.stays(yard, NothingToRedo(), yard.redo)
        yard.deed(DEEDS[0])
        self.stays(yard, NothingToRedo(), yard.redo)
        yard.undo()
        yard.redo()
        self.stays(yard, NothingToRedo(), yard.redo)

    def test_a_deed_empties_what_can_be_redone(self):
        for add_in_place in (False, True):
            yard = yard_with(DEEDS[:6])
            yard.undo()
            yard.undo()
            deed = ("put", "a", 9, ())
            if add_in_place:
                yard += deed
            else:
                yard.deed(deed)
            self.is_as_played(yard, [*DEEDS[:4], deed])
            self.stays(yard, NothingToRedo(), yard.redo)
            yard.undo()
            self.is_as_played(yard, DEEDS[:4], [deed])

    def test_the_very_deed_that_was_taken_back_empties_it_too(self):
        yard = yard_with(DEEDS[:6])
        yard.undo()
        yard.undo()
        yard.deed(DEEDS[4])
        self.is_as_played(yard, DEEDS[:5])

    def test_a_refused_deed_does_not(self):
        yard = yard_with(DEEDS[:6])
        yard.undo()
        yard.undo()
        for deed in [("put", "a", 7, ()), ("do", 5), None, "do", ("strike", "c", 3)]:
            with self.assertRaises(StrikeError):
                yard.deed(deed)
            with self.assertRaises(StrikeError):
                yard += deed
        self.is_as_played(yard, DEEDS[:4], DEEDS[4:6])

    def test_what_went_wrong_and_was_used_is_taken_back(self):
        yard = yard_with(UNDUE)
        yard.undo()
        self.assertEqual(yard.store().wrongs(), [])
        yard.redo()
        self.assertEqual(yard.store().wrongs(), [("undue", "b", 0)])
        yard = yard_with([("put", "b", 0, ())], "fresh")
        yard.undo()
        yard.deed(("put", "b", 0, ()))
        yard.deed(("strike", "b", 0))
        yard.deed(("look", 0, "fell b", (0,)))
        yard.deed(("do", 0))
        self.fails(Used("b", 0), yard.deed, ("put", "b", 0, ()))

    def test_a_mark_below_a_strike_comes_back(self):
        yard = yard_with([*UNJUST[:5], ("strike", "a", 0)])
        self.assertEqual(yard.store().mark("a", 0), "strike")
        yard.undo()
        self.assertEqual(yard.store().mark("a", 0), "y")
        yard.undo()
        self.assertEqual([yard.store().mark("a", 0), yard.store().lists()], [None, {0: ("spread y", (0,))}])

    def test_drawn_ways_back_and_forth(self):
        chance = random.Random(281)
        many = {"deed": 0, "undo": 0, "redo": 0}
        for _ in range(40):
            book, size = drawn_book(chance, chance.choice([None, True])), chance.randint(1, 3)
            yard, deeds, undone = Yard(book, size), [], []
            for _ in range(60):
                word = chance.choice(["deed", "deed", "deed", "undo", "redo"])
                if word == "deed":
                    deed = drawn_deed(chance, yard.store())
                    if is_done(yard.store(), deed):
                        yard.deed(as_lists(deed) if chance.random() < 0.5 else deed)
                        deeds, undone = [*deeds, deed], []
                        many["deed"] += 1
                    else:
                        with self.assertRaises(StrikeError):
                            yard.deed(deed)
                elif word == "undo" and deeds:
                    yard.undo()
                    deeds, undone = deeds[:-1], [deeds[-1], *undone]
                    many["undo"] += 1
                elif word == "redo" and undone:
                    yard.redo()
                    deeds, undone = [*deeds, undone[0]], undone[1:]
                    many["redo"] += 1
                self.assertEqual(yard.weaving(), deeds)
            self.is_as_played(yard, deeds, undone)
        self.assertTrue(all(count > 50 for count in many.values()), many)


class Since(YardCase):
    """[29], since"""

    def test_no_deeds_and_no_faults(self):
        for yard in (Yard(book_with()), yard_with(DEEDS)):
            for question in book_with().questions():
                self.assertIsNone(yard.since(question))

    def test_each_sort_of_question(self):
        rest = [("put", "c", 70, ()), ("put", "c", 71, ())]
        cases = [
            (UNDUE, "undue b", ()), (LOOSE, "loose y", ()), (LOOSE, "half y", ()), (SPOILT, "spoilt z", ()),
            (UNJUST, "unjust y", ()), (STUCK, "stuck", ("bare b",)),
        ]
        for deeds, question, checks in cases:
            for ahead in (0, 1, 2):
                yard = yard_with([*rest[:ahead], *deeds], *checks)
                self.assertEqual(yard.since(question), len(deeds) + ahead, question)
                yard.deed(("put", "c", 72, ()))
                self.assertEqual(yard.since(question), len(deeds) + ahead)
                yard.undo()
                yard.undo()
                self.assertIsNone(yard.since(question))

    def test_each_question_by_itself(self):
        yard = yard_with(LOOSE)
        wanted = {"loose y": 5, "half y": 5}
        for question in book_with().questions():
            self.assertEqual(yard.since(question), wanted.get(question), question)

    def test_half_ahead_of_loose(self):
        yard = yard_with([*LOOSE[:3], ("strike", "a", 0), *LOOSE[3:], ("put", "a", 1, ())])
        self.assertEqual([yard.since("half y"), yard.since("loose y")], [6, None])

    def test_faults_that_do_not_show_any_more(self):
        yard = yard_with([*LOOSE, ("put", "b", 0, ())])
        self.assertIs(shows(yard.store(), "loose y"), False)
        self.assertEqual([yard.since("loose y"), yard.since("half y")], [5, 5])
        yard = yard_with([*STUCK, ("put", "b", 2, ()), ("strike", "b", 2)], "bare b")
        self.assertIs(yard.store().is_stuck(), False)
        self.assertEqual(yard.since("stuck"), 6)

    def test_for_the_first_time(self):
        more = [("put", "b", 0, ()), ("strike", "b", 0), ("look", 0, "fell b", (0,)), ("do", 0)]
        self.assertEqual(yard_with([*LOOSE, *more]).since("loose y"), 5)

    def test_behind_deeds_that_were_undone(self):
        yard = yard_with(LOOSE)
        yard.undo()
        self.assertIsNone(yard.since("loose y"))
        yard.redo()
        self.assertEqual(yard.since("loose y"), 5)
        yard.undo()
        yard.deed(("stop", 0))
        self.assertIsNone(yard.since("loose y"))

    def test_sizes(self):
        deeds = [("put", "b", 0, ()), ("put", "b", 1, ()), ("put", "a", 0, (("y", 1),)), ("strike", "b", 0),
                 ("strike", "b", 1), ("look", 0, "fell b", (0, 1)), ("do", 0)]
        self.assertEqual(yard_with(deeds, size=2).since("loose y"), 7)

    def test_bad_questions(self):
        for yard in (Yard(book_with()), yard_with(UNDUE)):
            things = ["spoilt y", "unjust z", "loose a", "undue y", "loose", "stuck ", "undue  b", ["stuck"], yard, 0]
            for thing in odd_things() + things:
                self.stays(yard, BadQuestion(thing), yard.since, thing)

    def test_the_yard_stays(self):
        yard = yard_with(UNDUE)
        yard.undo()
        ahead = yard_told(yard)
        yard.since("undue b")
        self.assertEqual(yard_told(yard), ahead)

    def test_by_name(self):
        self.assertEqual(yard_with(UNDUE).since(question="undue b"), 7)

    def test_drawn_yards(self):
        chance = random.Random(291)
        seen = 0
        for _ in range(60):
            book = drawn_book(chance, True)
            yard, first = Yard(book, chance.randint(1, 3)), {}
            question = chance.choice(book.questions())
            word, shown = judge(book, question)
            deeds = shown if word == "once" else []
            for at in range(len(deeds) + 20):
                deed = deeds[at] if at < len(deeds) else drawn_deed(chance, yard.store())
                if is_done(yard.store(), deed):
                    yard.deed(deed)
                    for other in book.questions():
                        if shows(yard.store(), other):
                            first.setdefault(other, len(yard))
            if word == "once":
                self.assertEqual(first[question], len(deeds))
            seen += len(first)
            self.assertEqual({other: yard.since(other) for other in book.questions()},
                             {other: first.get(other) for other in book.questions()})
        self.assertGreater(seen, 30)


class OtherBooks(YardCase):
    """[29], under and rebooked"""

    def refused_at(self, yard, book, index):
        """The other book refuses this deed of the yard first, or none."""
        ahead = yard_told(yard)
        self.assertEqual(yard.under(book), index)
        twin = yard.rebooked(book)
        self.assertEqual(yard_told(yard), ahead)
        self.assertIs(type(twin), Yard)
        self.assertIsNot(twin, yard)
        self.assertEqual(twin.book(), book)
        self.assertEqual(twin.store().size(), yard.store().size())
        self.is_as_played(twin, yard.weaving()[:index])
        self.stays(twin, NothingToRedo(), twin.redo)

    def test_none(self):
        for size in (1, 3):
            self.refused_at(yard_with(UNDUE, size=size), book_with(), None)
            self.refused_at(yard_with(UNDUE, "put y", size=size), book_with("again y"), None)
        self.refused_at(Yard(book_with(), 2), book_with("lone", "fresh"), None)

    def test_more_checks(self):
        self.refused_at(yard_with(UNDUE), book_with("lone"), 3)
        self.refused_at(yard_with(UNDUE), book_with("fresh"), 5)
        self.refused_at(yard_with(UNDUE), book_with("fresh", "lone"), 3)
        self.refused_at(yard_with(UNJUST), book_with("hold y"), 5)
        self.refused_at(yard_with(UNJUST), book_with("keep y", "put y"), 5)
        self.refused_at(yard_with(LOOSE), book_with("bare b"), 3)
        self.refused_at(yard_with(LOOSE), book_with("calm b"), 3)

    def test_the_last_deed(self):
        self.refused_at(yard_with([*LOOSE[:3], ("put", "a", 1, (("y", 0),))]), book_with("put y"), 3)

    def test_fewer_checks(self):
        """Deeds that are done with a check and refused without it."""
        deeds = [*UNDUE[:4], ("do", 0), ("put", "b", 0, ()), ("do", 1), ("strike", "b", 0)]
        self.refused_at(yard_with(deeds, "again b"), book_with(), 7)
        self.refused_at(yard_with(deeds, "again b"), book_with("again b", "put y"), None)
        self.refused_at(yard_with(deeds, "again b", "keep x"), book_with("keep x"), 7)

    def test_the_first_deed(self):
        """A first deed can only be a put without owners, and no check refuses it."""
        for check in book_with().menu():
            self.refused_at(yard_with([("put", "b", 0, ())]), book_with(check), None)
        yard = yard_with([("put", "b", 0, ()), ("put", "b", 1, ())])
        self.refused_at(yard, book_with(*book_with().menu()), None)

    def test_other_rows_under_the_other_book(self):
        yard = yard_with(UNDUE)
        twin = yard.rebooked(book_with("again b"))
        self.is_as_played(twin, UNDUE)
        self.assertEqual([twin.store().rows("b")[0][0], twin.store().wrongs()], [0, []])
        self.assertEqual([yard.store().rows("b"), yard.store().wrongs()], [[], [("undue", "b", 0)]])

    def test_the_own_book(self):
        yard = yard_with(DEEDS, "put x", size=2)
        self.refused_at(yard, yard.book(), None)
        self.assertEqual(yard.rebooked(yard.book()), yard)

    def test_the_size_of_the_yard(self):
        deeds = [("put", "b", 0, ()), ("put", "b", 1, ()), ("strike", "b", 0), ("strike", "b", 1),
                 ("look", 0, "fell b", (1, 0)), ("do", 0)]
        self.refused_at(yard_with(deeds, size=2), book_with("again b"), None)
        self.refused_at(yard_with(deeds, size=5), book_with("again b"), None)

    def test_deeds_that_were_undone_do_not_count(self):
        yard = yard_with(UNDUE)
        yard.undo()
        yard.undo()
        self.refused_at(yard, book_with("fresh"), None)
        self.assertEqual(redone(yard), UNDUE[5:])
        yard.redo()
        self.refused_at(yard, book_with("fresh"), 5)

    def test_books_of_other_shapes(self):
        for yard in (Yard(book_with()), yard_with(DEEDS)):
            for other in OTHERS:
                self.stays(yard, UnlikeBooks(), yard.under, other)
                self.stays(yard, UnlikeBooks(), yard.rebooked, other)

    def test_they_go_on_alone(self):
        yard = yard_with(DEEDS)
        twin = yard.rebooked(book_with("lone"))
        self.assertEqual(len(twin), 8)
        behind = yard_told(twin)
        yard.undo()
        yard.deed(("put", "a", 80, ()))
        self.assertEqual(yard_told(twin), behind)
        ahead = yard_told(yard)
        twin.undo()
        twin.undo()
        twin.deed(("put", "a", 81, ()))
        self.assertEqual(yard_told(yard), ahead)
        self.is_as_played(twin, [*DEEDS[:6], ("put", "a", 81, ())])

    def test_by_name(self):
        yard = yard_with(UNDUE)
        self.assertEqual(yard.under(book=book_with("lone")), 3)
        self.assertEqual(yard.rebooked(book=book_with("lone")), yard.rebooked(book_with("lone")))

    def test_drawn_books(self):
        chance = random.Random(292)
        seen = {True: 0, False: 0}
        for _ in range(120):
            book = drawn_book(chance, True)
            other = drawn_neighbour(chance, book)
            yard, size = Yard(book, 2), 2
            deeds = parting(book, other) or []
            for at in range(len(deeds) + 20):
                deed = deeds[at] if at < len(deeds) else drawn_deed(chance, yard.store())
                if is_done(yard.store(), deed):
                    yard.deed(deed)
            store, index = Store(other, size), None
            for at, deed in enumerate(yard.weaving()):
                if not is_done(store, deed):
                    index = at
                    break
            self.refused_at(yard, other, index)
            self.assertEqual(told(yard.rebooked(other).store()), told(store))
            seen[index is None] += 1
        self.assertTrue(all(many > 20 for many in seen.values()), seen)


class Trials(YardCase):
    """[29], trial"""

    def yard(self):
        """A yard with deeds that can be done again."""
        yard = yard_with(DEEDS, size=2)
        yard.undo()
        yard.undo()
        return yard

    def is_as_it_was(self, yard, call):
        """The call leaves the yard as it was, and what was there once is there still; returns what it returns."""
        ahead = yard_told(yard)
        result = call()
        self.assertEqual(yard_told(yard), ahead)
        self.is_as_played(yard, DEEDS[:9], DEEDS[9:])
        twin = yard.copy()
        twin.redo()
        twin.undo()
        twin.undo()
        self.is_as_played(twin, DEEDS[:8], DEEDS[8:])
        return result

    def test_what_it_returns(self):
        yard = self.yard()
        for thing in odd_things() + [yard, 0, "x"]:
            self.assertIs(self.is_as_it_was(yard, lambda: yard.trial(lambda held: thing)), thing)

    def test_it_is_called_once_with_the_yard(self):
        yard, calls = self.yard(), []
        self.assertIsNone(self.is_as_it_was(yard, lambda: yard.trial(calls.append)))
        self.assertEqual(len(calls), 1)
        self.assertIs(calls[0], yard)

    def test_the_yard_is_as_it_was_when_the_work_begins(self):
        yard = self.yard()
        ahead = yard_told(yard)
        self.assertEqual(yard.trial(yard_told), ahead)

    def test_deeds(self):
        yard = self.yard()

        def work(held):
            results = [held.deed(("do", 2)), held.deed(("put", "c", 90, ()))]
            held += ("strike", "a", 7)
            self.assertEqual(redone(held), [])
            return [*results, len(held), held.store().mark("a", 7), held.weaving()[9:]]

        wanted = [[7], None, 12, "strike", [("do", 2), ("put", "c", 90, ()), ("strike", "a", 7)]]
        self.assertEqual(self.is_as_it_was(yard, lambda: yard.trial(work)), wanted)

    def test_undoes(self):
        yard = self.yard()

        def work(held):
            for _ in range(9):
                held.undo()
            return len(held), redone(held)

        self.assertEqual(self.is_as_it_was(yard, lambda: yard.trial(work)), (0, DEEDS))

    def test_redoes(self):
        yard = self.yard()

        def work(held):
            held.redo()
            held.redo()
            return held.weaving(), redone(held)

        self.assertEqual(self.is_as_it_was(yard, lambda: yard.trial(work)), (DEEDS, []))

    def test_all_of_them(self):
        yard = self.yard()

        def work(held):
            held.redo()
            held.undo()
            held.undo()
            held.undo()
            held.deed(("put", "b", 60, ()))
            held.deed(("strike", "b", 60))
            held.undo()
            held.redo()
            held.undo()
            return held.weaving(), redone(held)

        wanted = ([*DEEDS[:7], ("put", "b", 60, ())], [("strike", "b", 60)])
        self.assertEqual(self.is_as_it_was(yard, lambda: yard.trial(work)), wanted)

    def test_an_error_of_the_package(self):
        yard = self.yard()

        def work(held):
            held.undo()
            held.deed(("put", "c", 90, ()))
            held.deed(("put", "c", 90, ()))

        self.is_as_it_was(yard, lambda: self.fails(Taken("c", 90), yard.trial, work))

    def test_errors_of_python(self):
        errors = [ValueError("x"), KeyError(1), ZeroDivisionError(), StopIteration(3), KeyboardInterrupt()]
        for error in [*errors, SystemExit()]:
            yard = self.yard()

            def work(held):
                held.redo()
                held.redo()
                held.undo()
                held.deed(("put", "c", 90, ()))
                raise error

            with self.assertRaises(type(error)) as caught:
                self.is_as_it_was(yard, lambda: yard.trial(work))
            self.assertIs(caught.exception, error)
            self.is_as_it_was(yard, lambda: None)

    def test_an_error_that_the_work_catches(self):
        yard = self.yard()

        def work(held):
            try:
                held.deed(("do", 99))
            except StrikeError as error:
                return error.hand

        self.assertEqual(self.is_as_it_was(yard, lambda: yard.trial(work)), 99)

    def test_what_is_no_function(self):
        yard = self.yard()
        with self.assertRaises(TypeError):
            self.is_as_it_was(yard, lambda: yard.trial(None))
        self.is_as_it_was(yard, lambda: None)

    def test_trials_within_trials(self):
        yard = self.yard()

        def inner(held):
            held.undo()
            held.deed(("put", "c", 91, ()))
            return len(held)

        def outer(held):
            held.deed(("put", "c", 90, ()))
            held.undo()
            ahead = yard_told(held)
            result = held.trial(inner)
            self.assertEqual(yard_told(held), ahead)
            return result, redone(held)

        self.assertEqual(self.is_as_it_was(yard, lambda: yard.trial(outer)), (9, [("put", "c", 90, ())]))

    def test_what_the_work_takes_with_it(self):
        yard = self.yard()

        def work(held):
            held.undo()
            return held.copy(), held.store(), held.weaving()

        twin, store, weaving = self.is_as_it_was(yard, lambda: yard.trial(work))
        self.is_as_played(twin, DEEDS[:8], DEEDS[8:])
        self.assertEqual([told(store), weaving], [told(twin.store()), DEEDS[:8]])
        twin.deed(("put", "c", 90, ()))
        store.put("c", 91)
        weaving.clear()
        self.is_as_it_was(yard, lambda: None)

    def test_the_yard_of_a_trial_goes_on(self):
        yard = self.yard()
        yard.trial(lambda held: held.deed(("put", "c", 90, ())))
        yard.redo()
        yard.deed(("put", "c", 90, ()))
        self.is_as_played(yard, [*DEEDS[:10], ("put", "c", 90, ())])

    def test_an_empty_yard(self):
        yard = Yard(book_with())
        self.assertEqual(yard.trial(lambda held: [held.deed(deed) for deed in DEEDS][9]), [7])
        self.is_as_played(yard, [])
        self.fails(NothingToUndo(), yard.trial, lambda held: held.undo())
        self.is_as_played(yard, [])

    def test_by_name(self):
        self.assertEqual(self.yard().trial(work=len), 9)


class Copies(YardCase):
    """[29], copy"""

    def test_equal(self):
        yard = yard_with(DEEDS, "put x", size=2)
        yard.undo()
        yard.undo()
        twin = yard.copy()
        self.assertIs(type(twin), Yard)
        self.assertIsNot(twin, yard)
        self.assertEqual(yard_told(twin), yard_told(yard))
        self.is_as_played(twin, DEEDS[:9], DEEDS[9:])
        self.assertEqual(twin, yard)

    def changes(self):
        return [
            lambda yard: yard.undo(), lambda yard: yard.redo(), lambda yard: yard.deed(("put", "c", 90, ())),
            lambda yard: yard.deed(("do", 2)), lambda yard: yard.deed(("turn", "a", 7, "y", None)),
            lambda yard: (yard.undo(), yard.undo(), yard.redo()), lambda yard: yard.deed(("stop", 4)),
        ]

    def test_they_go_on_alone(self):
        for change in self.changes():
            yard = yard_with(DEEDS)
            yard.undo()
            yard.undo()
            for one, other in ((yard, yard.copy()), (yard.copy(), yard), (yard.copy().copy(), yard)):
                ahead = yard_told(other)
                change(one)
                self.assertEqual(yard_told(other), ahead)
                self.assertNotEqual(yard_told(one), ahead)
                one.deed(("put", "c", 99, ()))
                self.assertEqual(yard_told(other), ahead)
                yard = yard_with(DEEDS)
                yard.undo()
                yard.undo()

    def test_used_numbers_and_wrongs(self):
        yard = yard_with(UNDUE[:5], "fresh")
        self.fails(Used("b", 0), yard.copy().deed, ("put", "b", 0, ()))
        self.assertEqual(yard_with(UNDUE).copy().store().wrongs(), [("undue", "b", 0)])


class EqualYards(YardCase):
    """[29], =="""

    def same(self, one, other, is_same):
        self.assertEqual([one == other, other == one, one != other, other != one], [is_same] * 2 + [not is_same] * 2)

    def test_equal(self):
        self.same(Yard(book_with()), Yard(book_with()), True)
        self.same(yard_with(DEEDS), yard_with(as_lists(DEEDS)), True)
        self.same(yard_with(UNDUE[:2], "lone", "fresh"), yard_with(UNDUE[:2], "fresh", "lone"), True)
        yard = yard_with(DEEDS)
        self.same(yard, yard, True)

    def test_owners_in_any_order(self):
        one, other = yard_with(DEEDS[:2]), yard_with(DEEDS[:2])
        one.deed(("put", "a", 7, (("y", 0), ("z", 1))))
        other.deed(("put", "a", 7, (("z", 1), ("y", 0))))
        self.same(one, other, True)

    def test_whatever_can_be_redone(self):
        one = yard_with(DEEDS)
        one.undo()
        other = yard_with(DEEDS[:-1])
        self.same(one, other, True)
        other.deed(("put", "c", 90, ()))
        other.undo()
        self.same(one, other, True)

    def test_books(self):
        self.same(Yard(book_with()), Yard(book_with("lone")), False)
        self.same(yard_with(LOOSE), yard_with(LOOSE, "fresh"), False)
        for other in OTHERS:
            self.same(Yard(book_with()), Yard(other), False)

    def test_sizes(self):
        self.same(yard_with(DEEDS), yard_with(DEEDS, size=2), False)
        self.same(Yard(book_with()), Yard(book_with(), 2), False)

    def test_weavings(self):
        self.same(yard_with(DEEDS), yard_with(DEEDS[:-1]), False)
        self.same(yard_with(DEEDS[:1]), Yard(book_with()), False)
        # Equal stores do not make equal yards.
        one = yard_with([("put", "b", 0, ()), ("put", "b", 1, ())])
        other = yard_with([("put", "b", 1, ()), ("put", "b", 0, ())])
        self.assertEqual(one.store(), other.store())
        self.same(one, other, False)

    def test_other_things(self):
        yard = yard_with(DEEDS)
        for thing in odd_things() + [yard.store(), yard.weaving(), yard.book(), len(yard), 0]:
            self.same(yard, thing, False)
        for thing in odd_things() + [Store(book_with()), 0]:
            self.same(Yard(book_with()), thing, False)


if __name__ == "__main__":
    unittest.main()
