"""The FACTs of [19], [21], [22] and [25]: what is told of books agrees with stores in which drawn weavings are done."""

import random
import unittest

from longstrike.judging import judge
from longstrike.likeness import idle, parting
from longstrike.stores import Store
from longstrike.weavings import shows
from tests.drawing import drawn_book, drawn_deed, drawn_neighbour, is_done, rows_and_lists

BOOKS = 70


def told_of(book):
    return book.kinds(), book.columns(), book.checks()


class Agreement(unittest.TestCase):

    def do_the_same(self, chance, one, other, rounds, deeds):
        """Drawn weavings are done alike under both books, with stores of any size."""
        for _ in range(rounds):
            size, many = chance.randint(1, 3), chance.randint(2, 3)
            stores = [Store(one, size), Store(other, size)]
            for _ in range(deeds):
                deed = drawn_deed(chance, stores[0], many)
                said = [is_done(store, deed) for store in stores]
                self.assertEqual(said[0], said[1], (told_of(one), other.checks(), deed))
                # Unlike rows do not become equal by what is refused.
                if said[0]:
                    told = [rows_and_lists(store) for store in stores]
                    self.assertEqual(told[0], told[1], (told_of(one), other.checks(), deed))

    def test_judgements(self):
        """What never comes is not there; much of what comes once is seen in drawn weavings, too."""
        chance = random.Random(101)
        seen = {}
        for _ in range(BOOKS):
            book = drawn_book(chance)
            words = {question: judge(book, question)[0] for question in book.questions()}
            for _ in range(12):
                store, many = Store(book, chance.randint(1, 3)), chance.randint(2, 3)
                for _ in range(80):
                    if is_done(store, drawn_deed(chance, store, many)):
                        for question, word in words.items():
                            if shows(store, question):
                                self.assertEqual(word, "once", (told_of(book), question))
                                seen[question.split(" ")[0]] = True
        self.assertEqual(sorted(seen), ["half", "loose", "spoilt", "stuck", "undue", "unjust"])

    def test_partings(self):
        chance = random.Random(102)
        alike = 0
        for _ in range(BOOKS):
            book = drawn_book(chance)
            other = drawn_neighbour(chance, book)
            if parting(book, other) is None:
                alike += 1
                self.do_the_same(chance, book, other, 12, 80)
        self.assertGreater(alike, 12)

    def test_partings_are_needed(self):
        """Books that part are seen to part in some drawn weavings, so those are not too tame."""
        chance = random.Random(103)
        seen = 0
        for _ in range(BOOKS):
            book = drawn_book(chance, most_kinds=2, most_columns=2)
            other = drawn_neighbour(chance, book)
            if parting(book, other) is not None:
                try:
                    self.do_the_same(chance, book, other, 12, 80)
                except AssertionError:
                    seen += 1
        self.assertGreater(seen, 25)

    def test_idle_checks(self):
        chance = random.Random(104)
        many = 0
        for _ in range(BOOKS // 2):
            book = drawn_book(chance)
            for check in chance.sample(idle(book), min(3, len(idle(book)))):
                many += 1
                self.do_the_same(chance, book, book - check, 8, 80)
        self.assertGreater(many, 25)


if __name__ == "__main__":
    unittest.main()
