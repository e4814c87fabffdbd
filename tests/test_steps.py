"""Promises [17] to [19]: the steps of the watches, way by way, with and without each check.

States are written as texts: x, owner, y, z and the lists, "." for none.
"""

import random
import unittest

from longstrike.books import Book
from longstrike.watches import ColumnWatch, KindWatch, watch_of
from tests.cases import Case, odd_things
from tests.drawing import drawn_book
from tests.second import Second

TWO = [("k", True), ("l", True)]
FALL = ("c", "k", "l", "fall")
CLEAR = ("c", "k", "l", "clear")
OTHER = ("d", "k", "l", "fall")


def book_with(*checks, kinds=TWO, columns=(FALL,)):
    return Book(kinds, columns, checks)


def clear_book(*checks):
    return book_with(*checks, columns=(CLEAR,))


def state_of(text):
    return tuple("" if part == "." else part for part in text.split())


def text_of(state):
    return " ".join(part or "." for part in state)


def led(book, text):
    """The texts of the states to which steps lead, the state itself left out."""
    steps = ColumnWatch(book, "c").steps(state_of(text))
    return {text_of(state) for move, state, wrong in steps} - {text}


def kind_led(book, text):
    steps = KindWatch(book, "k").steps(state_of(text))
    return {text_of(state) for move, state, wrong in steps} - {text}


class StepsCase(Case):

    def leads(self, book, text, *texts):
        self.assertEqual(led(book, text), set(texts))

    def lacks(self, one, other, text, *texts):
        """The steps of a state that there are under one book, but not under another one; it has no others."""
        self.assertLessEqual(led(other, text), led(one, text))
        self.assertEqual(led(one, text) - led(other, text), set(texts))

    def keeps_all(self, one, other, *texts):
        for text in texts:
            self.lacks(one, other, text)


class WholeStates(StepsCase):
    """All steps of a state, in books of open kinds without checks."""

    def test_begin(self):
        self.leads(book_with(), "new - new new .", "plain - new new .", "new - plain new .", "new - new plain .")

    def test_all_there(self):
        self.leads(
            book_with(), "plain - plain plain .",
            "plain y plain plain .", "plain z plain plain .", "plain - marked plain .", "other - plain plain .",
        )

    def test_owner_marked(self):
        self.leads(
            book_with(), "plain y marked plain .",
            "plain - marked plain .", "plain z marked plain .", "other y marked plain .",
            "plain y marked plain S", "plain y marked plain Y",
        )

    def test_owner_marked_with_lists(self):
        self.leads(
            book_with(), "plain y marked plain SY",
            "plain - marked plain SY", "plain z marked plain SY", "other y marked plain SY",
            "marked y marked plain Y", "plain y marked plain Y", "plain y gone plain S", "plain y marked plain S",
        )

    def test_marked(self):
        self.leads(
            book_with(), "marked y marked plain X",
            "marked - marked plain X", "marked z marked plain X", "other y marked plain X",
            "marked y marked plain XX", "marked y marked plain XY",
            "gone - marked plain .", "marked y marked plain .",
        )

    def test_gone(self):
        self.leads(
            book_with(), "gone - gone plain XY",
            "plain - gone plain XY", "plain z gone plain XY", "gone - plain plain XY",
            "gone - gone plain X", "gone - gone plain Y",
        )

    def test_clear_column(self):
        self.leads(
            clear_book(), "other y marked plain C",
            "other - marked plain C", "other z marked plain C",
            "other y marked plain CC", "other y marked plain CX", "other y marked plain CY",
            "other - marked plain .", "other y marked plain .",
        )

    def test_states_to_which_no_steps_lead(self):
        self.leads(
            book_with(), "new y gone new SX",
            "plain - gone new SX", "new y plain new SX", "new y gone plain SX", "new y gone new S", "new y gone new X",
        )
        self.leads(
            clear_book(), "gone z new new CC",
            "plain - new new CC", "gone z plain new CC", "gone z new plain CC", "gone z new new C",
        )


class Puts(StepsCase):

    def test_x(self):
        for old in ("new", "gone"):
            self.assertEqual(
                {text for text in led(book_with(), f"{old} - marked plain .") if text.startswith("plain")},
                {"plain - marked plain .", "plain y marked plain .", "plain z marked plain ."},
            )
        for old in ("marked", "other"):
            self.assertFalse([text for text in led(book_with(), f"{old} z gone new X") if text.startswith("plain")])

    def test_x_with_an_owner_that_is_there(self):
        for y in ("new", "gone"):
            for text in led(book_with(), f"new - {y} new ."):
                self.assertNotIn("plain y", text)
        self.assertIn("plain y plain new .", led(book_with("put c"), "new - plain new ."))
        self.assertNotIn("plain z plain new .", led(book_with(), "new - plain new ."))

    def test_x_with_put(self):
        self.lacks(book_with(), book_with("put c"), "new - marked plain .", "plain y marked plain .")
        self.lacks(book_with(), book_with("put c"), "gone - marked plain XX", "plain y marked plain XX")
        self.keeps_all(
            book_with(), book_with("put c"), "new - plain plain .", "plain - marked plain .", "marked z marked new S",
        )

    def test_fresh(self):
        self.lacks(
            book_with(), book_with("fresh"), "gone - plain plain .",
            "plain - plain plain .", "plain y plain plain .", "plain z plain plain .",
        )
        self.lacks(book_with(), book_with("fresh"), "plain y gone plain S", "plain y plain plain S")
        self.keeps_all(book_with(), book_with("fresh"), "new - new new .", "new - marked new .", "plain - new plain .")

    def test_y_and_z(self):
        self.assertIn("marked y plain new SX", led(book_with(), "marked y gone new SX"))
        self.assertIn("marked y plain new SX", led(book_with(), "marked y new new SX"))
        for y in ("plain", "marked", "gone", "new"):
            self.assertIn(f"other - {y} plain .", led(book_with("fresh", "lone"), f"other - {y} new ."))


class Turns(StepsCase):

    def test_each_row_that_is_there(self):
        for x in ("plain", "marked", "other"):
            self.assertLessEqual(
                {f"{x} - marked plain X", f"{x} y marked plain X"}, led(book_with(), f"{x} z marked plain X"),
            )
        for x in ("new", "gone"):
            self.assertFalse([text for text in led(book_with(), f"{x} - marked plain X") if text.startswith(x + " y")])

    def test_turn(self):
        for x in ("plain", "marked", "other"):
            self.lacks(book_with(), book_with("turn c"), f"{x} z marked plain .", f"{x} y marked plain .")
        self.keeps_all(
            book_with(), book_with("turn c"), "plain - plain plain .", "new - marked plain .", "plain y marked plain .",
        )

    def test_keep(self):
        self.lacks(
            book_with(), book_with("keep c"), "plain y marked plain .", "plain - marked plain .", "plain z marked plain .",
        )
        self.lacks(book_with(), book_with("keep c"), "other y gone plain .", "other - gone plain .", "other z gone plain .")
        self.keeps_all(
            book_with(), book_with("keep c"), "plain y plain plain .", "plain z marked plain .", "plain - gone plain .",
            "marked y new plain .",
        )

    def test_hold(self):
        for x in ("marked", "other"):
            self.lacks(
                book_with(), book_with("hold c"), f"{x} y plain plain .", f"{x} - plain plain .", f"{x} z plain plain .",
            )
        self.keeps_all(book_with(), book_with("hold c"), "plain y plain plain .", "plain z marked plain S")

    def test_no_check_of_another_column(self):
        one = book_with(columns=[FALL, OTHER])
        for word in ("put", "turn", "keep", "hold", "again"):
            other = one + (word + " d")
            self.keeps_all(one, other, "new - marked plain .", "marked y marked plain SX", "plain z marked plain SY")


class Marks(StepsCase):

    def test_y(self):
        for y in ("new", "marked", "gone"):
            self.assertNotIn("new - marked plain .", led(book_with(), f"new - {y} plain .") - {f"new - {y} plain ."})
        self.assertIn("new - marked new XX", led(book_with(), "new - plain new XX"))

    def test_y_of_a_kind_that_is_not_markable(self):
        closed = book_with(kinds=[("k", True), ("l", False)])
        self.lacks(book_with(), closed, "plain y plain plain .", "plain y marked plain .")

    def test_y_of_a_kind_that_is_marked_by_its_owners(self):
        kinds = [("k", False), ("l", False), ("m", True)]
        columns = [FALL, ("d", "l", "m", "fall")]
        markable = book_with(kinds=kinds, columns=columns)
        self.assertIn("plain y marked plain S", led(markable, "plain y plain plain S"))
        lone = book_with("lone", kinds=kinds, columns=columns)
        self.assertNotIn("plain y marked plain S", led(lone, "plain y plain plain S"))
        self.assertIn("plain y marked plain .", led(lone, "plain y plain plain ."))
        self.assertIn("plain y marked plain S", led(book_with("lone"), "plain y plain plain S"))

    def test_x_struck(self):
        self.assertIn("other y gone new X", led(book_with("lone"), "plain y gone new X"))
        self.assertIn("other y gone new X", led(book_with("lone"), "marked y gone new X"))
        closed = book_with(kinds=[("k", False), ("l", True)])
        for x in ("plain", "marked"):
            self.lacks(book_with(), closed, f"{x} y plain plain .", "other y plain plain .")
        for x in ("new", "gone"):
            self.assertFalse([text for text in led(book_with(), f"{x} - plain new .") if text.startswith("other")])

    def test_x_marked_by_another_column(self):
        kinds = [("k", False), ("l", True), ("m", False)]
        with_other = book_with(kinds=kinds, columns=[FALL, OTHER])
        self.assertIn("other y plain new X", led(with_other, "plain y plain new X"))
        self.assertNotIn("other y plain new .", led(with_other, "marked y plain new ."))
        for column in [("d", "k", "l", "clear"), ("d", "k", "m", "fall"), ("d", "l", "l", "fall")]:
            without = book_with(kinds=kinds, columns=[FALL, column])
            self.assertNotIn("other y plain new .", led(without, "plain y plain new ."))

    def test_x_marked_by_another_column_with_lone(self):
        kinds = [("k", False), ("l", True)]
        lone = book_with("lone", kinds=kinds, columns=[FALL, OTHER])
        self.assertIn("other y plain new .", led(lone, "plain y plain new ."))
        self.assertNotIn("other y plain new S", led(lone, "plain y plain new S"))

    def test_home_and_goal_one_kind(self):
        column = ("c", "k", "k", "fall")
        closed = book_with(kinds=[("k", False), ("l", True)], columns=[column, OTHER])
        self.leads(
            closed, "plain y plain plain .",
            "plain - plain plain .", "plain z plain plain .", "plain y marked plain .", "other y plain plain .",
        )
        alone = book_with(kinds=[("k", False), ("l", True)], columns=[column])
        self.leads(alone, "plain y plain plain .", "plain - plain plain .", "plain z plain plain .")


class Looks(StepsCase):

    def looks(self, book, text):
        """The letters that can come to the lists of a state."""
        steps = ColumnWatch(book, "c").steps(state_of(text))
        found = [move[1] for move, state, wrong in steps if move[0] == "look"]
        lists = state_of(text)[4]
        for letter in found:
            self.assertIn(text_of((*state_of(text)[:4], "".join(sorted(lists + letter)))), led(book, text))
        return "".join(sorted(found))

    def test_spread(self):
        for x in ("new", "plain", "marked", "other", "gone"):
            for owner in "-yz":
                for y in ("new", "plain", "marked", "gone"):
                    fits = (x, owner, y) == ("plain", "y", "marked")
                    self.assertEqual("S" in self.looks(book_with(), f"{x} {owner} {y} plain ."), fits)
                    self.assertNotIn("C", self.looks(book_with(), f"{x} {owner} {y} plain ."))

    def test_clear(self):
        for x in ("new", "plain", "marked", "other", "gone"):
            for owner in "-yz":
                for y in ("new", "plain", "marked", "gone"):
                    fits = x in ("plain", "marked", "other") and (owner, y) == ("y", "marked")
                    self.assertEqual("C" in self.looks(clear_book(), f"{x} {owner} {y} plain ."), fits)
                    self.assertNotIn("S", self.looks(clear_book(), f"{x} {owner} {y} plain ."))

    def test_fell_x(self):
        for x in ("new", "plain", "marked", "other", "gone"):
            for book in (book_with(), book_with("bare k", "calm k", "bare l", "calm l", "again k")):
                self.assertEqual("X" in self.looks(book, f"{x} - gone plain ."), x in ("marked", "other"))

    def test_fell_y(self):
        for y in ("new", "plain", "marked", "gone"):
            self.assertEqual("Y" in self.looks(book_with(), f"plain y {y} plain ."), y == "marked")

    def test_fell_y_with_bare_and_calm(self):
        for x in ("new", "plain", "marked", "other", "gone"):
            for owner in "-yz":
                bare = owner != "y" or x in ("new", "gone")
                calm = owner != "y" or x != "plain"
                text = f"{x} {owner} marked plain ."
                self.assertEqual("Y" in self.looks(book_with("bare l"), text), bare)
                self.assertEqual("Y" in self.looks(book_with("calm l"), text), calm)
                self.assertEqual("Y" in self.looks(book_with("bare l", "calm l"), text), bare and calm)
                self.assertIn("Y", self.looks(book_with("bare k", "calm k"), text))

    def test_two_lists_at_most_in_ascending_order(self):
        self.assertEqual(self.looks(book_with(), "plain y marked plain ."), "SY")
        self.assertEqual(self.looks(book_with(), "plain y marked plain Y"), "SY")
        self.assertEqual(self.looks(book_with(), "marked y marked plain S"), "XY")
        self.assertEqual(self.looks(clear_book(), "marked y marked plain Y"), "CXY")
        for lists in ("SS", "SX", "SY", "XX", "XY", "YY"):
            self.assertEqual(self.looks(book_with(), f"marked y marked plain {lists}"), "")
        self.assertIn("marked y marked plain SX", led(book_with(), "marked y marked plain S"))
        self.assertIn("plain y marked plain SX", led(book_with(), "plain y marked plain X"))

    def test_lone(self):
        self.assertEqual(self.looks(book_with("lone"), "plain y marked plain ."), "SY")
        for letter in "SXY":
            self.assertEqual(self.looks(book_with("lone"), f"plain y marked plain {letter}"), "")
        self.assertEqual(self.looks(clear_book("lone"), "other y marked plain C"), "")


class Dos(StepsCase):

    def does(self, book, text, letter, result, wrong=""):
        steps = ColumnWatch(book, "c").steps(state_of(text))
        found = [(text_of(state), told) for move, state, told in steps if move == ("do", letter)]
        self.assertEqual(found, [(result, wrong)], text)

    def test_spread(self):
        for owner, y in [("-", "plain"), ("y", "gone"), ("y", "marked"), ("z", "marked"), ("y", "plain")]:
            self.does(book_with(), f"plain {owner} {y} plain SY", "S", f"marked {owner} {y} plain Y")
            again = "marked" if (owner, y) == ("y", "marked") else "plain"
            self.does(book_with("again c"), f"plain {owner} {y} plain SY", "S", f"{again} {owner} {y} plain Y")
        for x in ("new", "marked", "other", "gone"):
            self.does(book_with(), f"{x} y marked new S", "S", f"{x} y marked new .")
            self.does(book_with("again c"), f"{x} y marked new S", "S", f"{x} y marked new .")

    def test_clear(self):
        for x in ("plain", "marked", "other"):
            self.does(clear_book(), f"{x} y marked plain CC", "C", f"{x} - marked plain C")
            self.does(clear_book(), f"{x} y gone plain CX", "C", f"{x} - gone plain X")
            self.does(clear_book(), f"{x} y plain plain C", "C", f"{x} - plain plain .", "spoilt")
            self.does(clear_book(), f"{x} z marked plain C", "C", f"{x} - marked plain .", "spoilt")
            self.does(clear_book(), f"{x} - marked plain C", "C", f"{x} - marked plain .")
            self.does(clear_book("again c"), f"{x} y marked plain C", "C", f"{x} - marked plain .")
            for owner, y in [("y", "gone"), ("y", "plain"), ("z", "marked"), ("-", "marked"), ("y", "new")]:
                self.does(clear_book("again c"), f"{x} {owner} {y} plain C", "C", f"{x} {owner} {y} plain .")
        for x in ("new", "gone"):
            self.does(clear_book(), f"{x} y plain plain C", "C", f"{x} y plain plain .")

    def test_fell_x(self):
        for x in ("plain", "marked", "other"):
            self.does(book_with(), f"{x} y marked plain XY", "X", "gone - marked plain Y")
            result = "plain y marked plain Y" if x == "plain" else "gone - marked plain Y"
            self.does(book_with("again k"), f"{x} y marked plain XY", "X", result)
            self.does(book_with("again l", "again c"), f"{x} y marked plain XY", "X", "gone - marked plain Y")
        for x in ("new", "gone"):
            self.does(book_with(), f"{x} - marked plain X", "X", f"{x} - marked plain .")

    def test_unjust(self):
        for owner, y in [("-", "marked"), ("z", "marked"), ("y", "plain"), ("y", "new")]:
            self.does(book_with("again k"), f"marked {owner} {y} plain X", "X", f"gone - {y} plain .", "unjust")
            self.does(book_with(), f"other {owner} {y} plain X", "X", f"gone - {y} plain .")
            self.does(book_with(), f"plain {owner} {y} plain X", "X", f"gone - {y} plain .")
        for y in ("marked", "gone"):
            self.does(book_with(), f"marked y {y} plain X", "X", f"gone - {y} plain .")

    def test_fell_y(self):
        for y in ("plain", "marked"):
            self.does(book_with(), f"plain y {y} plain XY", "Y", "plain y gone plain X")
            self.does(book_with("bare l", "calm l"), f"plain y {y} plain XY", "Y", "plain y gone plain X")
            self.does(book_with("again k", "again c"), f"plain y {y} plain XY", "Y", "plain y gone plain X")
        for y in ("new", "gone"):
            self.does(book_with(), f"plain y {y} plain YY", "Y", f"plain y {y} plain Y")

    def test_fell_y_with_again(self):
        self.does(book_with("again l"), "plain y plain plain Y", "Y", "plain y plain plain .")
        self.does(book_with("again l"), "plain y marked plain Y", "Y", "plain y gone plain .")
        for check, x, goes in [
            ("bare l", "plain", False), ("bare l", "marked", False), ("bare l", "other", False), ("bare l", "gone", True),
            ("calm l", "plain", False), ("calm l", "marked", True), ("calm l", "other", True), ("bare k", "plain", True),
        ]:
            y = "gone" if goes else "marked"
            self.does(book_with("again l", check), f"{x} y marked plain Y", "Y", f"{x} y {y} plain .")
            self.does(book_with("again l", check), f"{x} z marked plain Y", "Y", f"{x} z gone plain .")

    def test_stop(self):
        for lists, rest in [("S", "."), ("SX", "S X"), ("XY", "X Y"), ("YY", "Y")]:
            steps = ColumnWatch(book_with("lone", "fresh"), "c").steps(state_of(f"plain y marked new {lists}"))
            found = {text_of(state) for move, state, wrong in steps if move[0] == "stop"}
            self.assertEqual(found, {f"plain y marked new {left}" for left in rest.split()})


class Undue(StepsCase):
    """The watch of a kind."""

    def test_whole_states(self):
        for text, texts in [
            ("new .", ["plain ."]), ("plain .", ["marked ."]), ("marked .", ["marked X"]), ("gone .", ["plain ."]),
            ("marked X", ["marked XX", "gone .", "marked ."]), ("marked XX", ["gone X", "marked X"]),
            ("gone X", ["plain X", "gone ."]), ("gone XX", ["plain XX", "gone X"]), ("new X", ["plain X", "new ."]),
            ("plain X", ["marked X", "gone .", "plain ."]), ("plain XX", ["marked XX", "gone X", "plain X"]),
        ]:
            self.assertEqual(kind_led(book_with(), text), set(texts), text)

    def test_fresh(self):
        self.assertEqual(kind_led(book_with("fresh"), "gone ."), set())
        self.assertEqual(kind_led(book_with("fresh"), "new ."), {"plain ."})

    def test_again(self):
        self.assertEqual(kind_led(book_with("again k"), "plain X"), {"marked X", "plain ."})
        self.assertEqual(kind_led(book_with("again l", "again c"), "plain X"), {"marked X", "gone .", "plain ."})
        self.assertEqual(kind_led(book_with("again k"), "marked X"), {"marked XX", "gone .", "marked ."})

    def test_lone(self):
        self.assertEqual(kind_led(book_with("lone"), "marked ."), {"marked X"})
        self.assertEqual(kind_led(book_with("lone"), "marked X"), {"gone .", "marked ."})
        self.assertEqual(kind_led(book_with("lone"), "plain X"), {"marked X", "gone .", "plain ."})

    def test_closed_kinds(self):
        closed = book_with(kinds=[("k", False), ("l", False)])
        self.assertEqual(kind_led(closed, "plain ."), set())
        self.assertEqual(kind_led(closed, "marked ."), {"marked X"})
        marked_by_owner = book_with(kinds=[("k", False), ("l", True)])
        self.assertEqual(kind_led(marked_by_owner, "plain XX"), {"marked XX", "gone X", "plain X"})
        self.assertEqual(kind_led(marked_by_owner + "lone", "plain ."), {"marked ."})
        self.assertEqual(kind_led(marked_by_owner + "lone", "plain X"), {"gone .", "plain ."})

    def test_the_fault(self):
        for text, letters in [("plain X", ["undue"]), ("plain XX", ["undue"]), ("marked X", [""]), ("gone X", [""])]:
            steps = KindWatch(book_with(), "k").steps(state_of(text))
            self.assertEqual([wrong for move, state, wrong in steps if move[0] == "do"], letters)
            self.assertEqual({wrong for move, state, wrong in steps if move[0] != "do"}, {""})
            steps = KindWatch(book_with("again k"), "k").steps(state_of(text))
            self.assertEqual({wrong for move, state, wrong in steps}, {""})


class States(StepsCase):

    def test_faults_that_are_states(self):
        watch = ColumnWatch(book_with(), "c")
        for x in ("new", "plain", "marked", "other", "gone"):
            for owner in "-yz":
                for y in ("new", "plain", "marked", "gone"):
                    state = (x, owner, y, "plain", "")
                    is_cut = (owner, y) == ("y", "gone")
                    self.assertEqual(watch.is_fault(state, "loose"), is_cut and x == "plain")
                    self.assertEqual(watch.is_fault(state, "half"), is_cut and x in ("plain", "marked", "other"))
                    self.assertEqual([watch.is_fault(state, word) for word in ("unjust", "spoilt", None)], [False] * 3)

    def test_all_states(self):
        for book, question in [(book_with(), "half c"), (clear_book(), "half c"), (book_with(), "undue k")]:
            watch = watch_of(book, question)
            second = Second(book, question)
            self.assertEqual(watch.states(), sorted(second.all_states()))
            for state in watch.states():
                self.assertIs(watch.is_state(state), True)
                self.assertIs(watch.is_state(list(state)), True)
                self.assertEqual(watch.is_fault(state, "half"), second.is_fault(state))
        self.assertEqual(len(ColumnWatch(book_with(), "c").states()), 5 * 3 * 4 * 2 * 10)

    def test_no_states(self):
        watch = ColumnWatch(book_with(), "c")
        good = ("plain", "y", "marked", "plain", "SX")
        for at, words in enumerate([
            ["there", "y"], ["x", "", "plain", "yy"], ["other", "z", "Plain"], ["marked", "gone", "-"],
            ["C", "CX", "XS", "SSS", "SXY", "SZ", "s", "-", " ", "YX", "XYY"],
        ]):
            for thing in [*words, *odd_things(), ("plain",)]:
                if (at, thing) not in ((1, "-"), (4, "")):
                    self.assertIs(watch.is_state((*good[:at], thing, *good[at + 1:])), False, (at, thing))
        for thing in [*odd_things(), good[:4], (*good, ""), "pypmS", {part: True for part in good}, ("plain", "X")]:
            self.assertIs(watch.is_state(thing), False, thing)

    def test_no_states_of_kinds(self):
        watch = KindWatch(book_with(), "k")
        for thing in [*odd_things(), ("other", ""), ("plain", "S"), ("plain", "Y"), ("plain", "XXX"), ("plain", None)]:
            self.assertIs(watch.is_state(thing), False, thing)
        self.assertIs(watch.is_state(["gone", "XX"]), True)


class SecondReading(StepsCase):
    """Books drawn, and all states, whether steps lead to them or not."""

    def test_steps(self):
        chance = random.Random(17)
        for _ in range(60):
            book = drawn_book(chance)
            question = chance.choice(book.questions()[:-1])
            watch, second = watch_of(book, question), Second(book, question)
            for state in chance.sample(watch.states(), min(len(watch.states()), 250)):
                found = {(reached, wrong == second.word) for move, reached, wrong in watch.steps(state)}
                self.assertEqual(found, second.steps(state), (book.kinds(), book.columns(), book.checks(), state))

    def test_one_step_for_each_move(self):
        chance = random.Random(18)
        for _ in range(20):
            book = drawn_book(chance)
            watch = watch_of(book, chance.choice(book.questions()[:-1]))
            for state in chance.sample(watch.states(), min(len(watch.states()), 100)):
                moves = [move for move, reached, wrong in watch.steps(state)]
                self.assertEqual(len(set(moves)), len(moves))


if __name__ == "__main__":
    unittest.main()
