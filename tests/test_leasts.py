"""Promise [24]: least sets of checks."""

import itertools
import random
import unittest

from longstrike.books import Book
from longstrike.errors import BadQuestion, UnknownCheck
from longstrike.judging import judge
from longstrike.leasts import least
from tests.cases import Case, odd_things
from tests.drawing import drawn_book

HOUSE = Book([("house", True), ("room", True)], [("of", "room", "house", "fall")], ["bare house"])


def second_least(book, questions, free):
    """All sets that help and have no proper subset that does, as the promise says it."""
    names = [check for check in book.menu() if check in free]
    good = []
    for chosen in itertools.product([False, True], repeat=len(names)):
        checks = [check for check, is_in in zip(names, chosen) if is_in]
        more = Book(book.kinds(), book.columns(), [*book.checks(), *checks])
        if all(judge(more, question)[0] == "never" for question in questions):
            good.append(checks)
    found = [checks for checks in good if not any(set(other) < set(checks) for other in good)]
    return sorted(found, key=lambda checks: (len(checks), [book.menu().index(check) for check in checks]))


class Leasts(Case):

    def test_the_worked_line(self):
        found = least(HOUSE, ["loose of"], ["lone", "again house", "turn of", "put of"])
        self.same_list(found, [["again house"], ["put of", "turn of", "lone"]])

    def test_no_question(self):
        for free in ([], ["lone"], HOUSE.menu()[:5]):
            self.same_list(least(HOUSE, [], free), [[]])

    def test_questions_of_which_none_comes(self):
        book = HOUSE + "again house" + "again room"
        for questions in (["undue house"], ["loose of", "half of", "undue room"], ["stuck"]):
            self.same_list(least(book, questions, ["lone", "fresh", "put of"]), [[]])
            self.same_list(least(book, questions, []), [[]])

    def test_questions_that_cannot_be_helped(self):
        for free in ([], ["bare room"], ["calm room", "put of", "keep of", "hold of"]):
            self.same_list(least(HOUSE, ["loose of"], free), [])
        ring = Book([("k", True)], [("c", "k", "k", "fall")], ["bare k"])
        self.same_list(least(ring, ["stuck"], ["lone", "fresh", "calm k", "put c", "turn c"]), [])
        self.same_list(least(ring, ["undue k", "stuck"], ["lone"]), [])

    def test_one_question(self):
        for questions in (["undue house"], ("undue house",), ["undue house", "undue house"]):
            self.same_list(least(HOUSE, questions, ["fresh", "again house", "lone"]), [["again house"], ["lone"], ["fresh"]])
        self.same_list(least(HOUSE, ["undue room"], ["again house", "again room"]), [["again room"]])

    def test_several_questions(self):
        questions = ["undue house", "undue room"]
        found = least(HOUSE, questions, ["fresh", "again room", "again house", "put of"])
        self.same_list(found, [["fresh"], ["again house", "again room"]])
        found = least(HOUSE, ["loose of", *questions], ["fresh", "again room", "again house"])
        self.same_list(found, [["again house", "again room"], ["again house", "fresh"]])
        self.same_list(least(HOUSE, ["loose of", *questions], ["again house"]), [])

    def test_checks_twice(self):
        free = ["lone", "again house", "lone", "again house", "again house"]
        self.same_list(least(HOUSE, ["undue house"], free), [["again house"], ["lone"]])

    def test_checks_that_the_book_has(self):
        book = HOUSE + "lone"
        self.same_list(least(book, ["undue house"], ["lone", "again house"]), [[]])
        self.same_list(least(HOUSE, ["loose of"], ["bare house", "again house"]), [["again house"]])
        self.same_list(least(book, ["loose of"], ["lone", "turn of", "put of", "bare house"]), [["put of", "turn of"]])

    def test_a_check_that_does_harm(self):
        """A further bare check makes a ring; a larger set may be bad."""
        book = Book([("k", True)], [("c", "k", "k", "fall")])
        found = least(book, ["half c", "stuck"], ["bare k", "again k"])
        self.same_list(found, [])
        self.same_list(least(book, ["stuck"], ["bare k", "again k"]), [[]])

    def test_the_order(self):
        chance = random.Random(4)
        several = 0
        for _ in range(60):
            book = drawn_book(chance, is_open=True, most_kinds=2, most_columns=1)
            questions = chance.sample(book.questions(), chance.randint(1, 2))
            free = chance.sample([check for check in book.menu() if check[:4] not in ("hold", "keep", "calm")], 5)
            found = least(book, questions, free)
            self.same_list(found, second_least(book, questions, free))
            self.assertEqual([type(checks) for checks in found], [list] * len(found))
            several += len(found) > 1
        self.assertGreater(several, 8)

    def test_checks_that_help(self):
        """Of the checks that bear on a question more sets help."""
        sizes = []
        for question in HOUSE.questions():
            for free in itertools.combinations(["put of", "turn of", "lone", "fresh", "again house", "again of"], 5):
                found = least(HOUSE, [question], free)
                self.same_list(found, second_least(HOUSE, [question], free))
                sizes.extend(len(checks) for checks in found)
        self.assertEqual(set(sizes), {0, 1, 3})

    def test_more_than_five(self):
        free = ["put of", "turn of", "keep of", "hold of", "again of", "again house", "lone"]
        self.same_list(least(HOUSE, ["loose of"], free), [["again house"], ["put of", "turn of", "lone"]])

    def test_ones_own_and_what_is_given_stays(self):
        questions, free = ["loose of"], ["lone", "again house", "lone"]
        found = least(HOUSE, questions, free)
        self.assertEqual((questions, free), (["loose of"], ["lone", "again house", "lone"]))
        found[0].append("lone")
        self.assertEqual(least(HOUSE, questions, free), [["again house"]])
        self.assertEqual(least(HOUSE, tuple(questions), tuple(free)), [["again house"]])
        self.assertEqual(HOUSE.checks(), ["bare house"])

    def test_by_names(self):
        self.same_list(least(free=["again house"], questions=["loose of"], book=HOUSE), [["again house"]])


class Errors(Case):

    def test_bad_questions(self):
        for thing in [*odd_things(), "loose", "spoilt of", "undue of", 0, ["stuck"]]:
            self.fails(BadQuestion(thing), least, HOUSE, [thing], [])
            self.fails(BadQuestion(thing), least, HOUSE, ["loose of", thing, "nothing"], ["lone"])

    def test_unknown_checks(self):
        for thing in [*odd_things(), "put", "bare of", "put house", "alone", 0, ["lone"]]:
            self.fails(UnknownCheck(thing), least, HOUSE, [], [thing])
            self.fails(UnknownCheck(thing), least, HOUSE, ["loose of"], ["lone", thing, "nothing"])

    def test_questions_first(self):
        self.fails(BadQuestion("y"), least, HOUSE, ["stuck", "y", "z"], ["n", "m"])
        self.fails(BadQuestion(None), least, HOUSE, (None,), ("n",))
        self.fails(UnknownCheck("n"), least, HOUSE, ["stuck"], ["fresh", "n", "m"])
        self.fails(UnknownCheck("n"), least, free=["n"], book=HOUSE, questions=["stuck", "stuck"])


if __name__ == "__main__":
    unittest.main()
