"""Promises [19], [21] and [23]: judgements, and what weavings do in stores."""

import itertools
import random
import unittest

from longstrike.books import Book
from longstrike.drafts import weaving_of
from longstrike.errors import BadQuestion
from longstrike.judging import judge
from longstrike.stores import Store
from longstrike.tables import is_paper, ranks, table
from longstrike.watches import ColumnWatch
from longstrike.weavings import done, shows
from tests.cases import Case, odd_things
from tests.drawing import books_of_one_column, drawn_book, is_done
from tests.second import Second

OPEN = [("k", True), ("l", True)]
HOUSE = Book([("house", True), ("room", True)], [("of", "room", "house", "fall")], ["bare house"])


def told_of(book):
    return book.kinds(), book.columns(), book.checks()


class JudgeCase(Case):

    def shows_it_last(self, book, question, weaving):
        """Each deed can be done, the fault shows behind the last one, and behind none ahead of it."""
        self.assertIs(type(weaving), list)
        store = Store(book)
        for index, deed in enumerate(weaving):
            self.assertFalse(shows(store, question), (told_of(book), question, weaving, index))
            done(store, deed)
        self.assertTrue(shows(store, question), (told_of(book), question, weaving))

    def judged(self, book, question):
        """What judge tells, which must show itself to be true."""
        told = judge(book, question)
        self.assertIs(type(told), tuple)
        word, shown = told
        if word == "never":
            self.assertEqual(shown, ranks(book) if question == "stuck" else table(book, question))
            self.assertIs(is_paper(book, question, shown), True)
        else:
            self.assertEqual(word, "once")
            self.shows_it_last(book, question, shown)
        return word, shown

    def comes_behind(self, book, question, many):
        word, weaving = self.judged(book, question)
        self.assertEqual((word, len(weaving)), ("once", many), (told_of(book), question, weaving))

    def never_comes(self, book, question):
        self.assertEqual(self.judged(book, question)[0], "never", (told_of(book), question))


class Columns(JudgeCase):
    """Questions of columns, all kinds open: as few deeds as can be."""

    def book(self, *checks, rule="fall"):
        return Book(OPEN, [("c", "k", "l", rule)], checks)

    def test_loose(self):
        self.comes_behind(self.book(), "loose c", 5)
        self.comes_behind(self.book("bare l"), "loose c", 5)
        self.comes_behind(self.book("bare l", "put c"), "loose c", 6)
        self.comes_behind(self.book("bare l", "put c", "turn c"), "loose c", 8)
        self.never_comes(self.book("bare l", "put c", "turn c", "fresh"), "loose c")
        self.never_comes(self.book("bare l", "put c", "turn c", "lone"), "loose c")
        self.never_comes(self.book("calm l", "again l"), "loose c")

    def test_half(self):
        self.comes_behind(self.book(), "half c", 5)
        self.comes_behind(self.book("calm l", "again l"), "half c", 6)
        self.never_comes(self.book("bare l", "again l"), "half c")
        self.never_comes(self.book("bare l", "put c", "turn c", "lone"), "half c")

    def test_unjust(self):
        self.comes_behind(self.book(), "unjust c", 8)
        self.comes_behind(self.book("hold c"), "unjust c", 8)
        self.comes_behind(self.book("hold c", "again c"), "unjust c", 10)
        self.comes_behind(self.book("hold c", "again c", "lone"), "unjust c", 10)
        self.never_comes(self.book("hold c", "again c", "bare l", "again l"), "unjust c")
        self.never_comes(self.book("hold c", "again c", "fresh"), "unjust c")

    def test_spoilt(self):
        self.comes_behind(self.book(rule="clear"), "spoilt c", 7)
        self.comes_behind(self.book("keep c", rule="clear"), "spoilt c", 8)
        self.comes_behind(self.book("lone", rule="clear"), "spoilt c", 7)
        self.never_comes(self.book("keep c", "lone", rule="clear"), "spoilt c")
        self.comes_behind(self.book("keep c", "fresh", rule="clear"), "spoilt c", 9)
        self.never_comes(self.book("again c", rule="clear"), "spoilt c")

    def test_undue(self):
        self.comes_behind(self.book(), "undue k", 7)
        self.comes_behind(self.book("bare k", "calm k", "again l"), "undue k", 7)
        for check in ("lone", "fresh", "again k"):
            self.never_comes(self.book(check), "undue k")

    def test_one_kind(self):
        book = Book([("k", True)], [("c", "k", "k", "fall"), ("d", "k", "k", "clear")])
        self.comes_behind(book, "loose c", 5)
        self.comes_behind(book, "unjust c", 8)
        self.comes_behind(book, "spoilt d", 7)
        self.never_comes(book + "bare k" + "again k", "half d")

    def test_several_columns(self):
        columns = [("d", "k", "l", "fall"), ("c", "k", "l", "fall"), ("e", "l", "k", "fall"), ("f", "l", "l", "clear")]
        book = Book(OPEN, columns)
        for name, many in [("c", 5), ("d", 5), ("e", 5), ("f", 5)]:
            self.comes_behind(book, "loose " + name, many)
        for name in ("c", "d", "e"):
            self.comes_behind(book, "unjust " + name, 8)
        self.comes_behind(book, "spoilt f", 7)
        self.comes_behind(book + "calm l" + "again l", "half c", 6)
        self.comes_behind(book + "calm k" + "again k", "half e", 6)
        self.comes_behind(book, "undue l", 7)

    def test_nothing_is_marked_in_closed_books(self):
        book = Book([("k", False), ("l", False)], [("c", "k", "l", "fall"), ("d", "k", "k", "clear")])
        for question in book.questions():
            self.never_comes(book, question)

    def test_the_worked_lines(self):
        self.comes_behind(HOUSE, "loose of", 5)
        self.never_comes(HOUSE + "again house", "loose of")


class ClosedKinds(JudgeCase):
    """Kinds that are marked along one or several columns only."""

    def test_the_owner_along_columns(self):
        kinds = [("k", False), ("l", False), ("m", True)]
        columns = [("c", "k", "l", "clear"), ("d", "l", "m", "fall")]
        book = Book(kinds, columns)
        for question in ("loose c", "half c", "spoilt c", "undue l", "loose d", "unjust d", "undue m"):
            self.assertEqual(self.judged(book, question)[0], "once", question)
        self.never_comes(book, "undue k")
        self.never_comes(book + "lone", "undue l")

    def test_long_ways(self):
        kinds = [("k", True), ("l", False), ("m", False)]
        columns = [("c", "l", "k", "fall"), ("d", "m", "l", "fall"), ("e", "m", "m", "fall"), ("f", "m", "m", "clear")]
        for checks in ([], ["put c", "put d", "put e", "put f"], ["fresh"], ["lone"], ["bare k", "bare l"],
                       ["put c", "turn c", "keep c", "hold c", "put d", "turn d", "keep d", "hold d"]):
            book = Book(kinds, columns, checks)
            words = [self.judged(book, question)[0] for question in book.questions()]
            self.assertIn("once", words)

    def test_each_life_of_an_owner_has_helpers_of_its_own(self):
        """The owner is put, marked, felled and put again; its own owner must not be marked at the put."""
        kinds = [("k", True), ("l", False), ("m", True)]
        columns = [("c", "k", "l", "fall"), ("d", "l", "m", "fall")]
        checks = ["bare l", "put c", "turn c", "put d", "turn d"]
        word, weaving = self.judged(Book(kinds, columns, checks), "loose c")
        self.assertEqual(word, "once")
        self.assertEqual([deed[0] for deed in weaving].count("strike"), 1)
        self.assertEqual([deed[:3] for deed in weaving].count(("put", "l", 1)), 2)

    def test_a_mark_by_another_column(self):
        """Half a reference of a row that another column marks, while the column itself marks none."""
        kinds = [("k", False), ("l", True)]
        columns = [("c", "k", "l", "clear"), ("d", "k", "l", "fall")]
        word, weaving = self.judged(Book(kinds, columns, ["calm l", "again l", "put c", "turn c"]), "half c")
        self.assertEqual(word, "once")
        self.assertIn("spread d", [deed[2] for deed in weaving if deed[0] == "look"])

    def test_the_other_column_among_such_that_do_not_mark(self):
        kinds = [("k", False), ("l", True), ("m", False)]
        watched, good = ("c", "k", "l", "fall"), ("d", "k", "l", "fall")
        others = [("e", "k", "l", "clear"), ("e", "l", "l", "fall"), ("e", "k", "m", "fall"), ("e", "k", "k", "fall")]
        for other in others:
            for columns in itertools.permutations([watched, good, other]):
                book = Book(kinds, columns, ["calm l", "again l"])
                word, weaving = self.judged(book, "half c")
                self.assertEqual([deed[2] for deed in weaving if deed[0] == "look"][0], "spread d")
                self.judged(book + "turn c" + "put c", "half c")
                self.judged(book + "turn c" + "put c" + "put d", "half c")

    def test_an_owner_that_is_turned_to_ahead_of_the_mark(self):
        """x is put without an owner, turned, and marked by another column then."""
        kinds = [("k", False), ("l", True)]
        columns = [("c", "k", "l", "clear"), ("d", "k", "l", "fall")]
        book = Book(kinds, columns, ["hold c"])
        watch = ColumnWatch(book, "c")
        moves = [("put", "x", "-"), ("put", "y", "-"), ("turn", "x", "y"), ("put", "z", "-"), ("mark", "x"), ("look", "X")]
        moves += [("do", "X"), ("put", "x", "z"), ("turn", "x", "-")]
        store = Store(book)
        for deed in weaving_of(book, watch, moves):
            done(store, deed)
        self.assertEqual(store.rows("k"), [(0, {"c": None, "d": None}, None)])
        self.assertEqual([row[0] for row in store.rows("l")], [1, 2, 3])

    def test_no_rows_that_do_not_help(self):
        columns = [("c", "k", "l", "fall"), ("d", "k", "l", "fall")]
        book = Book([("k", False), ("l", True)], columns)
        self.comes_behind(book, "loose c", 5)
        self.comes_behind(book, "unjust c", 8)
        book = Book([("k", False), ("l", False), ("m", True)], [*columns, ("e", "l", "l", "fall"), ("f", "l", "m", "fall")])
        self.comes_behind(book, "loose c", 8)
        self.comes_behind(book, "undue l", 10)

    def test_no_rows_that_help_in_another_life(self):
        book = Book([("k", False), ("l", True)], [("c", "k", "l", "fall"), ("d", "k", "l", "fall")])
        moves = [("put", "y", "-"), ("put", "x", "y"), ("mark", "y"), ("look", "S"), ("do", "S"), ("look", "X"), ("do", "X")]
        moves += [("put", "x", "-"), ("mark", "x")]
        weaving = weaving_of(book, ColumnWatch(book, "c"), moves)
        self.assertEqual([deed[:3] for deed in weaving if deed[0] == "put"], [
            ("put", "l", 1), ("put", "k", 0), ("put", "l", 3), ("put", "k", 0),
        ])

    def test_no_way_by_clear_columns(self):
        kinds = [("k", False), ("l", False), ("m", True)]
        columns = [("e", "l", "m", "clear"), ("f", "l", "m", "fall"), ("c", "k", "l", "fall"), ("d", "k", "k", "fall")]
        for question in ("undue k", "loose d", "unjust d", "undue l", "half e"):
            self.assertEqual(self.judged(Book(kinds, columns), question)[0], "once")
        self.assertEqual(self.judged(Book(kinds, columns, ["bare k"]), "stuck")[0], "once")
        book = Book(kinds, [("e", "l", "m", "clear"), ("c", "k", "l", "fall")])
        for question in ("undue k", "undue l", "loose c", "unjust c"):
            self.never_comes(book, question)

    def test_a_mark_by_the_column_alone(self):
        book = Book([("k", False), ("l", True)], [("c", "k", "l", "fall")])
        for question in book.questions():
            self.judged(book, question)
        self.comes_behind(book, "unjust c", 8)

    def test_no_owner_that_makes_a_felling_just(self):
        """x is marked by another column in an earlier life only."""
        chance = random.Random(5)
        found = 0
        for _ in range(150):
            book = Book([("k", False), ("l", True)], [("d", "k", "l", "fall"), ("c", "k", "l", "fall")])
            book = Book(book.kinds(), book.columns(), chance.sample(book.menu(), chance.randint(0, 6)))
            found += self.judged(book, "unjust c")[0] == "once"
        self.assertGreater(found, 20)


class Stuck(JudgeCase):

    def test_rings_of_open_kinds(self):
        three = [*OPEN, ("m", True)]
        self.comes_behind(Book(OPEN, [("c", "k", "k", "fall")], ["bare k"]), "stuck", 5)
        two = [("c", "k", "l", "fall"), ("d", "l", "k", "fall")]
        self.comes_behind(Book(OPEN, two, ["bare k", "bare l"]), "stuck", 5)
        around = [("c", "k", "l", "fall"), ("d", "m", "k", "fall"), ("e", "l", "m", "fall")]
        bare = ["bare k", "bare l", "bare m"]
        self.comes_behind(Book(three, around, bare), "stuck", 7)
        self.comes_behind(Book(three, [*around, ("f", "l", "l", "fall")], bare), "stuck", 5)
        self.comes_behind(Book(three, [*around, ("f", "k", "m", "fall")], bare), "stuck", 5)

    def test_rings_with_many_checks(self):
        book = Book(OPEN, [("c", "k", "l", "fall"), ("d", "l", "k", "fall")])
        self.comes_behind(Book(book.kinds(), book.columns(), book.menu()), "stuck", 5)

    def test_no_rings(self):
        book = Book(OPEN, [("c", "k", "l", "fall"), ("d", "l", "k", "fall")])
        for checks in ([], ["bare k"], ["bare l", "calm k"], ["calm k", "calm l"]):
            self.never_comes(Book(book.kinds(), book.columns(), checks), "stuck")
        self.assertEqual(self.judged(book + "bare k", "stuck"), ("never", [("k", 0)]))
        cleared = Book(OPEN, [("c", "k", "l", "fall"), ("d", "l", "k", "clear")], ["bare k", "bare l"])
        self.assertEqual(self.judged(cleared, "stuck"), ("never", [("k", 1), ("l", 0)]))

    def test_rings_with_one_open_kind(self):
        kinds = [("k", False), ("l", False), ("m", True)]
        around = [("c", "k", "l", "fall"), ("d", "m", "k", "fall"), ("e", "l", "m", "fall")]
        for checks in (["bare k", "bare l", "bare m"], ["bare k", "bare l", "bare m", "lone", "fresh", "calm m"]):
            self.assertEqual(self.judged(Book(kinds, around, checks), "stuck")[0], "once")

    def test_rings_that_are_marked_from_outside(self):
        kinds = [("k", False), ("l", False), ("m", True)]
        for columns in (
            [("c", "k", "k", "fall"), ("d", "k", "m", "fall")],
            [("d", "k", "m", "fall"), ("c", "k", "k", "fall")],
            [("c", "k", "k", "fall"), ("d", "l", "m", "fall"), ("e", "k", "l", "fall")],
            [("c", "k", "l", "fall"), ("d", "l", "k", "fall"), ("e", "l", "m", "fall")],
            [("c", "k", "l", "fall"), ("d", "l", "k", "fall"), ("e", "k", "m", "fall"), ("f", "k", "k", "clear")],
        ):
            for more in ([], ["bare m"], ["calm m", "lone"], ["again m", "put c", "put d", "hold c", "keep d"]):
                book = Book(kinds, columns, ["bare k", "bare l", *more])
                self.assertEqual(self.judged(book, "stuck")[0], "once")

    def test_a_ring_that_is_never_marked(self):
        book = Book([("k", False), ("l", True)], [("c", "k", "k", "fall"), ("d", "l", "k", "fall")], ["bare k", "bare l"])
        self.assertEqual(self.judged(book, "stuck"), ("never", [("l", 0)]))


class Equal(JudgeCase):
    """The same for equal arguments."""

    def test_twice_and_in_another_order(self):
        chance = random.Random(2)
        for _ in range(40):
            book = drawn_book(chance)
            checks = [*book.checks(), *book.checks()[:2]]
            chance.shuffle(checks)
            twin = Book(tuple(book.kinds()), [list(column) for column in book.columns()], tuple(checks))
            for question in book.questions():
                told = judge(book, question)
                self.assertEqual(judge(book, question), told)
                self.assertEqual(judge(twin, question), told)

    def test_ones_own(self):
        for book, question in [(HOUSE, "loose of"), (HOUSE + "again house", "loose of"), (HOUSE, "stuck")]:
            word, shown = judge(book, question)
            shown.clear()
            self.assertNotEqual(judge(book, question), (word, shown))

    def test_the_book_stays(self):
        book = Book(OPEN, [("c", "k", "l", "fall")], ["bare l", "lone"])
        told = told_of(book)
        for question in book.questions():
            judge(book, question)
        self.assertEqual(told_of(book), told)

    def test_deeds_of_plain_values(self):
        for question in HOUSE.questions()[:3]:
            for deed in judge(HOUSE, question)[1]:
                self.assertIs(type(deed), tuple)
                if deed[0] == "put":
                    self.assertIs(type(deed[3]), tuple)
                if deed[0] == "look":
                    self.assertIs(type(deed[3]), tuple)


class Questions(JudgeCase):

    def test_bad_ones(self):
        words = ["loose", "loose x", "spoilt of", "undue of", "stuck ", "Stuck", "unjust house", "half  of"]
        for thing in [*odd_things(), *words, 0, ["stuck"], ("loose of",)]:
            self.fails(BadQuestion(thing), judge, HOUSE, thing)
            self.fails(BadQuestion(thing), judge, question=thing, book=HOUSE)

    def test_by_names(self):
        self.assertEqual(judge(question="loose of", book=HOUSE), judge(HOUSE, "loose of"))


class Drawn(JudgeCase):

    def test_shows_itself(self):
        chance = random.Random(23)
        words = []
        for _ in range(150):
            book = drawn_book(chance)
            for question in book.questions():
                word, shown = self.judged(book, question)
                words.append((question.split(" ")[0], word))
                if question != "stuck":
                    self.assertEqual(word == "once", Second(book, question).comes())
        for word in ("loose", "half", "unjust", "spoilt", "undue", "stuck"):
            self.assertGreater(words.count((word, "once")), 20)
            self.assertGreater(words.count((word, "never")), 20)


class StoresOfAWatch:
    """All stores of size 1 with a row x, an owner y and a row z that is not struck, and two hands; told as states."""

    def __init__(self, book, column):
        self.book = book
        self.column, self.home, self.goal, self.rule = [row for row in book.columns() if row[0] == column][0]
        self.letters = {("spread " + column, 0): "S", ("clear " + column, 0): "C"}
        self.letters |= {("fell " + self.goal, 1): "Y", ("fell " + self.home, 0): "X"}

    def deeds(self):
        pairs = [(), ((self.column, 1),), ((self.column, 2),)]
        found = [("put", self.home, 0, owners) for owners in pairs]
        found += [("put", self.goal, 1, ()), ("put", self.goal, 2, ())]
        found += [("turn", self.home, 0, self.column, owner) for owner in (None, 1, 2)]
        found += [("strike", self.home, 0), ("strike", self.goal, 1)]
        pieces = [piece for piece in self.letters if piece[0] in Store(self.book).pieces()]
        found += [("look", hand, piece, (number,)) for hand in (0, 1) for piece, number in pieces]
        return found + [(word, hand) for word in ("do", "stop") for hand in (0, 1)]

    def part_of(self, store, kind, number, was_put):
        marks = {row[0]: row[2] for row in store.rows(kind)}
        if number not in marks:
            return "gone" if was_put else "new"
        return "plain" if marks[number] is None else "marked" if marks[number] == self.column else "other"

    def state_of(self, store, was_put):
        x = self.part_of(store, self.home, 0, "x" in was_put)
        y = self.part_of(store, self.goal, 1, "y" in was_put).replace("other", "marked")
        z = self.part_of(store, self.goal, 2, False)
        owner = "-"
        if x in ("plain", "marked", "other"):
            owner = {None: "-", 1: "y", 2: "z"}[store.owner(self.home, 0, self.column)]
        lists = "".join(sorted(self.letters[piece, number] for piece, (number,) in store.lists().values()))
        return (x, owner, y, z, lists)

    def walked(self):
        """The dict from the states to the least numbers of deeds, and that from the faults of x."""
        began = self.state_of(Store(self.book), "")
        far, faults = {began: 0}, {}
        layer = [(Store(self.book), "", began)]
        depth = 0
        while layer:
            depth += 1
            following = []
            for store, was_put, _ in layer:
                for deed in self.deeds():
                    new = store.copy()
                    if not is_done(new, deed):
                        continue
                    put = was_put
                    if deed[0] == "put" and deed[2] < 2:
                        put = was_put + ("x" if deed[1:3] == (self.home, 0) else "y")
                    for word in self.faults_of(new, store):
                        faults.setdefault(word, depth)
                    state = self.state_of(new, put)
                    if state not in far:
                        far[state] = depth
                        following.append((new, put, state))
            layer = following
        return far, faults

    def faults_of(self, store, before):
        found = [wrong[0] for wrong in store.wrongs()[len(before.wrongs()):] if wrong[1:] == (self.column, 0)]
        return found + [word for word in ("loose", "half") if 0 in getattr(store, word)(self.column)]


class Watched(JudgeCase):
    """The FACT of [19]: what the tables tell, stores do. All kinds are open."""

    def agree(self, book):
        for column in [row[0] for row in book.columns()]:
            far, faults = StoresOfAWatch(book, column).walked()
            wrong = [question for question in book.questions() if question.split(" ")[-1] == column]
            self.assertEqual(table(book, wrong[0]), sorted(far), told_of(book))
            for question in wrong:
                word, shown = self.judged(book, question)
                many = len(shown) if word == "once" else None
                self.assertEqual(faults.get(question.split(" ")[0]), many, (told_of(book), question))

    def test_books_drawn(self):
        chance = random.Random(19)
        for _ in range(16):
            self.agree(drawn_book(chance, is_open=True, most_kinds=2, most_columns=2))

    def test_each_check_alone(self):
        for columns in ([("c", "k", "l", "fall")], [("c", "k", "k", "clear")]):
            book = Book(OPEN, columns)
            for check in book.menu():
                if check.split(" ")[-1] in ("c", "fresh", "lone"):
                    self.agree(book + check + "again k")


class Fewest(JudgeCase):
    """No weaving with fewer deeds shows a fault: all stores with two rows of a kind and two hands are looked at."""

    def shown_within(self, book, most, numbers=(0, 1)):
        """The faults that show behind at most so many deeds, with their least numbers of deeds."""
        layer, seen, found = [Store(book)], set(), {}
        deeds = list(self.deeds(book, numbers))
        for depth in range(1, most + 1):
            following = []
            for store in layer:
                for deed in deeds:
                    new = store.copy()
                    if not is_done(new, deed):
                        continue
                    # Numbers that were used do not matter here, as no book has "fresh".
                    key = repr([[new.rows(kind) for kind, _ in book.kinds()], sorted(new.lists().values())])
                    if key not in seen:
                        seen.add(key)
                        following.append(new)
                        for question in book.questions():
                            if question not in found and shows(new, question):
                                found[question] = depth
            layer = following
        return found

    def deeds(self, book, numbers):
        for kind, _ in book.kinds():
            for number in numbers:
                pairs = [()]
                for name, home, goal, rule in book.columns():
                    if home == kind:
                        pairs += [(*pair, (name, owner)) for pair in pairs for owner in numbers]
                for pair in pairs:
                    yield ("put", kind, number, pair)
                yield ("strike", kind, number)
        for name, home, goal, rule in book.columns():
            for number in numbers:
                for owner in (None, *numbers):
                    yield ("turn", home, number, name, owner)
        # Which hand has which list is the same to all.
        for hand in (0, 1):
            for piece in Store(book).pieces():
                for number in numbers:
                    yield ("look", hand, piece, (number,))
            yield ("do", hand)
            yield ("stop", hand)

    def agree(self, book, most):
        found = self.shown_within(book, most)
        for question in book.questions():
            word, shown = self.judged(book, question)
            if word == "once" and len(shown) <= most:
                self.assertEqual(found.get(question), len(shown), (told_of(book), question))
            else:
                self.assertNotIn(question, found, (told_of(book), question))

    def test_one_kind(self):
        for checks in ([], ["bare k"], ["calm k", "again k"], ["put c", "bare k"], ["lone"]):
            self.agree(Book([("k", True)], [("c", "k", "k", "fall")], checks), 6)
        self.agree(Book([("k", True)], [("c", "k", "k", "clear")], ["calm k", "again k"]), 6)

    def test_two_kinds(self):
        self.agree(Book(OPEN, [("c", "k", "l", "fall")], ["bare l", "put c", "again k"]), 5)
        self.agree(Book(OPEN, [("c", "k", "l", "fall"), ("d", "l", "k", "fall")], ["bare k", "bare l"]), 5)

    def test_three_in_a_ring(self):
        kinds = [("k", True), ("l", True), ("m", True)]
        columns = [("c", "k", "l", "fall"), ("d", "l", "m", "fall"), ("e", "m", "k", "fall")]
        book = Book(kinds, columns, ["bare k", "bare l", "bare m", "hold c"])
        self.assertNotIn("stuck", self.shown_within(book, 4))
        self.comes_behind(book, "stuck", 7)


class OneColumn(JudgeCase):
    """All books of one column and some checks."""

    def test_all(self):
        checks = ["put c", "keep c", "again c", "bare l", "again l", "fresh"]
        kinds = [("k", False), ("l", True)]
        for rule in ("fall", "clear"):
            for book in books_of_one_column(kinds, ("c", "k", "l", rule), checks):
                for question in book.questions():
                    self.judged(book, question)


if __name__ == "__main__":
    unittest.main()
