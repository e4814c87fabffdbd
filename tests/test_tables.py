"""Promises [20] to [22]: tables, ranks, and papers."""

import random
import unittest

from longstrike.books import Book
from longstrike.errors import BadQuestion
from longstrike.tables import is_paper, ranks, table
from tests.cases import Case, odd_things
from tests.drawing import drawn_book
from tests.second import Second, second_ranks

KINDS = [("k", True), ("l", True)]
COLUMNS = [("c", "k", "l", "fall"), ("d", "k", "k", "clear")]
SAFE = ["again l", "bare l", "again c", "again k", "keep c", "hold c", "put c", "turn c", "fresh", "again d", "put d"]


def book_with(*checks):
    return Book(KINDS, COLUMNS, checks)


def no_questions():
    """Objects that are no questions of the books here."""
    words = ["loose", "loose x", "spoilt c", "unjust d", "undue c", "loose k", "undue  k", "stuck ", " loose c", "half"]
    return odd_things() + words + [0, 5, ["stuck"], ("loose", "c"), ["loose c"], {"undue k": 1}]


class Tables(Case):
    """[20]"""

    def test_small_ones_as_they_are(self):
        closed = Book([("k", False), ("l", False)], [("c", "k", "l", "fall")])
        for question in ("loose c", "half c", "unjust c"):
            self.assertEqual(table(closed, question), [
                ("new", "-", "new", "new", ""), ("new", "-", "new", "plain", ""),
                ("new", "-", "plain", "new", ""), ("new", "-", "plain", "plain", ""),
                ("plain", "-", "new", "new", ""), ("plain", "-", "new", "plain", ""),
                ("plain", "-", "plain", "new", ""), ("plain", "-", "plain", "plain", ""),
                ("plain", "y", "plain", "new", ""), ("plain", "y", "plain", "plain", ""),
                ("plain", "z", "new", "plain", ""), ("plain", "z", "plain", "plain", ""),
            ])
        self.assertEqual(table(closed, "undue k"), [("new", ""), ("plain", "")])

    def test_of_a_kind(self):
        opened = [
            ("gone", ""), ("gone", "X"), ("marked", ""), ("marked", "X"), ("marked", "XX"), ("new", ""),
            ("plain", ""), ("plain", "X"),
        ]
        self.assertEqual(table(book_with(), "undue k"), opened)
        self.assertEqual(table(book_with("again k"), "undue k"), opened)
        self.assertEqual(table(book_with("fresh"), "undue k"), [state for state in opened if state != ("plain", "X")])
        lone = [("gone", ""), ("marked", ""), ("marked", "X"), ("new", ""), ("plain", "")]
        self.assertEqual(table(book_with("lone"), "undue l"), lone)

    def test_each_question_by_a_second_reading(self):
        chance = random.Random(20)
        for _ in range(40):
            book = drawn_book(chance)
            for question in book.questions()[:-1]:
                found = table(book, question)
                self.same_list(found, sorted(Second(book, question).reached()))
                self.assertEqual(len(set(found)), len(found))
                self.assertIn(Second(book, question).begin, found)
                for state in found:
                    self.assertEqual([type(part) for part in state], [str] * len(state))

    def test_closed_under_the_steps(self):
        for question in book_with().questions()[:-1]:
            second = Second(book_with(), question)
            found = set(table(book_with(), question))
            for state in found:
                self.assertLessEqual({reached for reached, fault in second.steps(state)}, found)

    def test_one_table_for_the_questions_of_a_column(self):
        self.assertEqual(table(book_with(), "loose c"), table(book_with(), "unjust c"))
        self.assertEqual(table(book_with(), "half d"), table(book_with(), "spoilt d"))
        self.assertNotEqual(table(book_with(), "half c"), table(book_with(), "half d"))

    def test_more_checks_lead_to_no_more_states(self):
        book = book_with()
        for check in SAFE:
            fewer = table(book + check, "half c")
            self.assertLessEqual(set(fewer), set(table(book, "half c")))
            book = book + check

    def test_ones_own_and_twice_the_same(self):
        found = table(book_with("lone"), "undue k")
        found.append(("plain", "XX"))
        del found[0]
        self.assertNotEqual(table(book_with("lone"), "undue k"), found)
        again = table(book_with("lone"), "undue k")
        self.assertEqual(again, table(book_with("lone"), "undue k"))
        self.assertIsNot(again, table(book_with("lone"), "undue k"))

    def test_bad_questions(self):
        for thing in ["stuck", *no_questions()]:
            self.fails(BadQuestion(thing), table, book_with(), thing)

    def test_by_names(self):
        self.assertEqual(table(question="undue k", book=book_with()), table(book_with(), "undue k"))
        self.fails(BadQuestion("stuck"), table, question="stuck", book=book_with())


class Ranks(Case):
    """[21]"""

    def ranks_of(self, kinds, columns, *checks):
        found = ranks(Book(kinds, columns, checks))
        if found is not None:
            self.assertIs(type(found), list)
            self.assertEqual([type(pair) for pair in found], [tuple] * len(found))
        return found

    def test_no_tight_kinds(self):
        columns = [("c", "k", "l", "fall"), ("d", "k", "k", "fall")]
        self.assertEqual(self.ranks_of(KINDS, columns), [])
        self.assertEqual(self.ranks_of(KINDS, columns, "calm k", "calm l", "again k", "lone"), [])

    def test_kinds_that_are_not_markable(self):
        kinds = [("k", False), ("l", False), ("m", True)]
        columns = [("c", "k", "k", "fall"), ("d", "k", "m", "clear"), ("e", "m", "k", "fall")]
        self.assertEqual(self.ranks_of(kinds, columns, "bare k", "bare l"), [])
        self.assertEqual(self.ranks_of(kinds, columns, "bare k", "bare l", "bare m"), [("m", 0)])

    def test_along_columns(self):
        kinds = [("k", True), ("l", False), ("m", False)]
        columns = [("c", "l", "k", "fall"), ("d", "m", "l", "fall"), ("e", "m", "k", "fall")]
        self.assertEqual(self.ranks_of(kinds, columns, "bare k", "bare l", "bare m"), [("k", 0), ("l", 1), ("m", 2)])
        self.assertEqual(self.ranks_of(kinds, columns, "bare k", "bare m"), [("k", 0), ("m", 1)])
        self.assertEqual(self.ranks_of(kinds, columns, "bare l", "bare m"), [("l", 0), ("m", 1)])
        self.assertEqual(self.ranks_of(kinds, columns[:2], "bare k", "bare m"), [("k", 0), ("m", 0)])

    def test_in_the_order_of_the_kinds(self):
        kinds = [("m", True), ("l", True), ("k", True)]
        columns = [("d", "m", "l", "fall"), ("c", "l", "k", "fall")]
        self.assertEqual(self.ranks_of(kinds, columns, "bare k", "bare l", "bare m"), [("m", 2), ("l", 1), ("k", 0)])
        columns = [("c", "l", "k", "fall"), ("d", "m", "l", "fall")]
        self.assertEqual(self.ranks_of(kinds, columns, "bare k", "bare l", "bare m"), [("m", 2), ("l", 1), ("k", 0)])

    def test_clear_columns_do_not_count(self):
        columns = [("c", "k", "l", "clear"), ("d", "l", "l", "clear"), ("e", "l", "k", "fall")]
        self.assertEqual(self.ranks_of(KINDS, columns, "bare k", "bare l"), [("k", 0), ("l", 1)])

    def test_rings(self):
        three = [*KINDS, ("m", True)]
        self.assertIsNone(self.ranks_of(KINDS, [("c", "k", "k", "fall")], "bare k"))
        self.assertIsNone(self.ranks_of(KINDS, [("c", "k", "k", "fall")], "bare k", "bare l"))
        two = [("c", "k", "l", "fall"), ("d", "l", "k", "fall")]
        self.assertIsNone(self.ranks_of(KINDS, two, "bare k", "bare l"))
        self.assertEqual(self.ranks_of(KINDS, two, "bare k"), [("k", 0)])
        self.assertEqual(self.ranks_of(KINDS, two, "bare l", "calm k"), [("l", 0)])
        around = [("c", "k", "l", "fall"), ("d", "l", "m", "fall"), ("e", "m", "k", "fall")]
        self.assertIsNone(self.ranks_of(three, around, "bare k", "bare l", "bare m"))
        self.assertEqual(self.ranks_of(three, around, "bare k", "bare l"), [("k", 1), ("l", 0)])

    def test_a_ring_beside_kinds_with_ranks(self):
        three = [*KINDS, ("m", True)]
        columns = [("c", "k", "l", "fall"), ("d", "m", "m", "fall")]
        self.assertIsNone(self.ranks_of(three, columns, "bare k", "bare l", "bare m"))
        self.assertEqual(self.ranks_of(three, columns, "bare k", "bare l"), [("k", 1), ("l", 0)])

    def test_by_a_second_reading(self):
        chance = random.Random(21)
        rings = 0
        for _ in range(300):
            book = drawn_book(chance)
            self.assertEqual(ranks(book), second_ranks(book))
            rings += ranks(book) is None
        self.assertGreater(rings, 30)

    def test_ones_own_and_by_names(self):
        book = Book(KINDS, [("c", "k", "l", "fall")], ["bare k", "bare l"])
        found = ranks(book=book)
        self.assertEqual(found, [("k", 1), ("l", 0)])
        found.append(("k", 3))
        self.assertEqual(ranks(book), [("k", 1), ("l", 0)])


class Papers(Case):
    """[22], all questions but "stuck"."""

    def safe_book(self):
        """A book in which no fault of the column c and of the kinds comes."""
        book = book_with(*SAFE)
        for question in ("loose c", "half c", "unjust c", "undue k", "undue l", "spoilt d"):
            self.assertFalse(Second(book, question).comes(), question)
        return book

    def test_tables_of_books_in_which_the_fault_never_comes(self):
        book = self.safe_book()
        for question in ("loose c", "half c", "unjust c", "undue k", "spoilt d"):
            paper = table(book, question)
            self.assertIs(is_paper(book, question, paper), True)
            self.assertIs(is_paper(book, question, tuple(reversed(paper))), True)
            self.assertIs(is_paper(book, question, [list(state) for state in paper]), True)
            self.assertIs(is_paper(book, question, [*paper, paper[0], list(paper[-1]), paper[3]]), True)

    def test_tables_of_books_in_which_it_comes(self):
        for question in book_with().questions()[:-1]:
            self.assertTrue(Second(book_with(), question).comes())
            self.assertIs(is_paper(book_with(), question, table(book_with(), question)), False, question)

    def test_one_state_left_out(self):
        book = self.safe_book()
        for question in ("loose c", "unjust c", "undue l", "spoilt d"):
            paper = table(book, question)
            for at in range(len(paper)):
                self.assertIs(is_paper(book, question, paper[:at] + paper[at + 1:]), False, (question, paper[at]))

    def test_one_state_exchanged_or_put_in(self):
        book = self.safe_book()
        for question in ("half c", "unjust c", "undue k", "spoilt d"):
            paper, second = table(book, question), Second(book, question)
            for state in sorted(second.all_states()):
                more = [*paper, state]
                self.assertIs(is_paper(book, question, more), second.is_paper(more), (question, state))
            for at, state in enumerate(paper):
                other = paper[at - 1]
                self.assertIs(is_paper(book, question, [*paper[:at], other, *paper[at + 1:]]), False)

    def test_states_to_which_no_steps_lead(self):
        book = self.safe_book()
        begin = ("plain", "z", "gone", "new", "CY")
        more = Second(book, "spoilt d").reached(begin)
        self.assertNotIn(begin, table(book, "spoilt d"))
        paper = [*table(book, "spoilt d"), *sorted(more)]
        self.assertIs(is_paper(book, "spoilt d", paper), True)
        self.assertIs(is_paper(book, "spoilt d", sorted(more)), ("new", "-", "new", "new", "") in more)
        without = [state for state in paper if state != ("plain", "z", "gone", "new", "Y")]
        self.assertIs(is_paper(book, "spoilt d", without), False)

    def test_all_states(self):
        chance = random.Random(22)
        told = []
        for _ in range(40):
            book = drawn_book(chance)
            question = chance.choice(book.questions()[:-1])
            second = Second(book, question)
            paper = sorted(second.all_states())
            self.assertIs(is_paper(book, question, paper), second.is_paper(paper))
            reached = sorted(second.reached())
            chance.shuffle(reached)
            self.assertIs(is_paper(book, question, reached), second.is_paper(reached))
            told.append(is_paper(book, question, reached))
            start = chance.choice(paper)
            more = [*reached, *second.reached(start)]
            self.assertIs(is_paper(book, question, more), second.is_paper(more))
        self.assertIn(True, told)
        self.assertIn(False, told)

    def test_a_fault_alone_spoils_a_paper(self):
        """Papers that are closed, but hold the fault."""
        book = self.safe_book()
        paper = table(book, "half c")
        fault = ("marked", "y", "gone", "new", "")
        more = [*paper, *sorted(Second(book, "half c").reached(fault))]
        self.assertIs(is_paper(book, "half c", more), False)
        self.assertIs(is_paper(book, "loose c", more), True)
        self.assertIs(is_paper(book, "unjust c", more), True)

    def test_the_paper_of_another_book(self):
        book = self.safe_book()
        self.assertIs(is_paper(book - "fresh", "half c", table(book, "half c")), False)
        self.assertIs(is_paper(book, "half c", table(book - "fresh", "half c")), True)
        self.assertIs(is_paper(book, "half c", table(book, "half d")), False)
        self.assertIs(is_paper(book, "undue k", table(book, "half c")), False)
        self.assertIs(is_paper(book, "half c", table(book, "undue k")), False)
        self.assertIs(is_paper(book, "undue k", table(book, "undue l")), True)

    def test_letters_of_the_other_rule(self):
        book = book_with(*[check for check in book_with().menu() if check != "lone"])
        for question, good, bad in [("half c", "S", "C"), ("half d", "C", "S")]:
            paper = table(book, question)
            self.assertIs(is_paper(book, question, paper), True)
            more = [*paper, *sorted(Second(book, question).reached(("gone", "-", "new", "new", good)))]
            self.assertIs(is_paper(book, question, more), True)
            more = [(*state[:4], state[4].replace(good, bad)) for state in more]
            self.assertIs(is_paper(book, question, more), False)

    def test_any_object_as_a_paper(self):
        for question in ("half c", "undue k", "stuck"):
            for thing in [*odd_things(), 0, "new", {("new", ""): True}, (("new", ""),), ["new", ""], [[]], [()]]:
                if question != "stuck" or thing not in ([], ()):
                    self.assertIs(is_paper(book_with(), question, thing), False, (question, thing))

    def test_any_object_in_the_place_of_a_state_or_a_part(self):
        book = self.safe_book()
        for question in ("half c", "undue k"):
            paper = table(book, question)
            for thing in [*odd_things(), 0, "new", "newnew"]:
                self.assertIs(is_paper(book, question, [*paper, thing]), False)
                self.assertIs(is_paper(book, question, [thing, *paper]), False)
                for at in range(len(paper[0])):
                    state = (*paper[0][:at], thing, *paper[0][at + 1:])
                    second = Second(book, question)
                    good = isinstance(thing, str) and state in second.all_states()
                    self.assertIs(is_paper(book, question, [*paper, state]), good and second.is_paper([*paper, state]))

    def test_too_few_or_too_many_parts(self):
        book = self.safe_book()
        paper = table(book, "half c")
        for state in [paper[0][:4], (*paper[0], ""), paper[0][1:], ("new", "")]:
            self.assertIs(is_paper(book, "half c", [*paper, state]), False)

    def test_what_is_given_stays(self):
        book = self.safe_book()
        paper = [list(state) for state in table(book, "half c")]
        is_paper(book, "half c", paper)
        self.assertEqual([tuple(state) for state in paper], table(book, "half c"))
        self.assertEqual(type(paper[0]), list)

    def test_bad_questions(self):
        for thing in no_questions():
            for paper in ([], [("new", "")], None, table(book_with(), "half c")):
                self.fails(BadQuestion(thing), is_paper, book_with(), thing, paper)

    def test_by_names(self):
        book = Book([("k", False)])
        self.assertIs(is_paper(paper=[("new", ""), ("plain", "")], question="undue k", book=book), True)
        self.assertIs(is_paper(paper=[("new", "")], book=book, question="undue k"), False)


class PapersOfRanks(Case):
    """[22], "stuck"."""

    def chain(self):
        kinds = [("k", True), ("l", True), ("m", True)]
        columns = [("c", "l", "k", "fall"), ("d", "m", "l", "fall"), ("e", "m", "k", "clear"), ("f", "k", "m", "clear")]
        return Book(kinds, columns, ["bare k", "bare l", "bare m"])

    def test_ranks_are_papers(self):
        chance = random.Random(23)
        for _ in range(200):
            book = drawn_book(chance)
            if ranks(book) is not None:
                self.assertIs(is_paper(book, "stuck", ranks(book)), True)
                self.assertIs(is_paper(book, "stuck", [list(pair) for pair in reversed(ranks(book))]), True)

    def test_numbers(self):
        for numbers in [(0, 1, 2), (5, 7, 10 ** 29), (1, 3, 4), (0, 9, 10)]:
            self.assertIs(is_paper(self.chain(), "stuck", list(zip("klm", numbers))), True)
        for numbers in [(0, 0, 1), (0, 1, 1), (1, 0, 2), (2, 1, 0), (0, 2, 1), (0, 0, 0), (1, 1, 2)]:
            self.assertIs(is_paper(self.chain(), "stuck", list(zip("klm", numbers))), False)

    def test_objects_that_are_no_numbers(self):
        for thing in odd_things():
            self.assertIs(is_paper(self.chain(), "stuck", [("k", thing), ("l", 1), ("m", 2)]), False)
            self.assertIs(is_paper(self.chain(), "stuck", [("k", 0), ("l", 1), ("m", thing)]), False)
        self.assertIs(is_paper(self.chain(), "stuck", [("k", 0), ("l", True), ("m", 2)]), False)

    def test_objects_that_are_no_kinds_or_pairs(self):
        good = [("k", 0), ("l", 1), ("m", 2)]
        for thing in [*odd_things(), "c", "n", "k", 0]:
            self.assertIs(is_paper(self.chain(), "stuck", [*good, thing]), False)
            if thing != "k":
                self.assertIs(is_paper(self.chain(), "stuck", [*good, (thing, 3)]), False)
                self.assertIs(is_paper(self.chain(), "stuck", [(thing, 0), *good[1:]]), False)
        for thing in [("k",), ("k", 0, 0), "k0", {"k": 0, "l": 1}, [["k", 0]]]:
            self.assertIs(is_paper(self.chain(), "stuck", [thing, *good[1:]]), False)
        self.assertIs(is_paper(self.chain(), "stuck", {"k": 0, "l": 1, "m": 2}), False)

    def test_left_out_and_twice(self):
        good = [("k", 0), ("l", 1), ("m", 2)]
        for at in range(3):
            self.assertIs(is_paper(self.chain(), "stuck", good[:at] + good[at + 1:]), False)
            self.assertIs(is_paper(self.chain(), "stuck", [*good, good[at]]), False)
            self.assertIs(is_paper(self.chain(), "stuck", [*good, list(good[at])]), False)
        self.assertIs(is_paper(self.chain(), "stuck", [*good, ("m", 3)]), False)

    def test_kinds_that_are_not_tight(self):
        book = self.chain() - "bare l"
        for paper in ([("k", 0), ("m", 0)], [("m", 0), ("k", 5)], [("l", 0), ("k", 0), ("m", 0)], (["k", 3], ("m", 0), ("l", 9))):
            self.assertIs(is_paper(book, "stuck", paper), True)
        self.assertIs(is_paper(book, "stuck", [("l", 0), ("k", 0), ("m", 0), ("l", 1)]), False)
        self.assertIs(is_paper(book, "stuck", [("l", True), ("k", 0), ("m", 0)]), False)

    def test_the_empty_paper(self):
        for paper in ([], ()):
            self.assertIs(is_paper(self.chain(), "stuck", paper), False)
            self.assertIs(is_paper(book_with(), "stuck", paper), True)
            self.assertIs(is_paper(book_with(), "half c", paper), False)
            self.assertIs(is_paper(book_with(), "undue k", paper), False)

    def test_rings_have_no_paper(self):
        book = Book(KINDS, [("c", "k", "k", "fall")], ["bare k"])
        for number in range(4):
            self.assertIs(is_paper(book, "stuck", [("k", number)]), False)
        book = Book(KINDS, [("c", "k", "l", "fall"), ("d", "l", "k", "fall")], ["bare k", "bare l"])
        for one in range(3):
            for other in range(3):
                self.assertIs(is_paper(book, "stuck", [("k", one), ("l", other)]), False)


if __name__ == "__main__":
    unittest.main()
