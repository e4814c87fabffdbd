"""What all tests use: wrong inputs, and tests of errors."""

import copy
import unittest

from longstrike.books import Book
from longstrike.errors import NoRow, UnlikeBooks
from longstrike.stores import Store
from longstrike.yards import Yard


def odd_things():
    """Any objects that are neither a name, nor a number, nor a word of any book."""
    book = Book([("a", True), ("b", False)], [("of", "b", "a", "fall")], ["lone"])
    store = Store(book)
    store.put("a", 0)
    return [
        None, True, False, -1, -10 ** 29,
        [], (), {}, [0], (0,), ("a",), ["a"], {"a": 0}, {0: "a"}, [[1], {}], ([],), (("of", 0),),
        "", " ", "A", "a ", " a", "a1", "strike", "abcdefghi", "put ", "put  of", "Put of", "0", "-",
        book, store, Book([]), UnlikeBooks(), NoRow("a", 0), Yard(book),
    ]


def is_same(one, other):
    """True is not 1, and what an error tells is the very object that was passed, or one like it."""
    return one is other or type(one) is type(other) and one == other


def told(store):
    """All that a store tells of itself, as it is now."""
    kinds = [name for name, is_open in store.book().kinds()]
    said = [[store.rows(kind) for kind in kinds], store.lists(), store.wrongs(), store.size()]
    return [*copy.deepcopy(said), store.book()]


class Case(unittest.TestCase):
    """A test that can ask for errors."""

    def fails(self, error, call, *places, **names):
        """The call raises an error of this class with these attributes."""
        try:
            call(*places, **names)
        except ValueError as caught:
            self.assertIs(type(caught), type(error))
            self.assertEqual(list(vars(caught)), list(vars(error)))
            for name, worth in vars(error).items():
                self.assertTrue(is_same(vars(caught)[name], worth), (name, vars(caught)[name], worth))
        else:
            self.fail(f"no {type(error).__name__} was raised")

    def refuses(self, store, error, call, *places, **names):
        """The call raises this error, and leaves the store as it is."""
        ahead = told(store)
        twin = store.copy()
        self.fails(error, call, *places, **names)
        self.assertEqual(told(store), ahead)
        self.assertEqual(store, twin)

    def same_list(self, found, wanted):
        """A list, equal and with items of the same types."""
        self.assertIs(type(found), list)
        self.assertEqual(found, wanted)
        for one, other in zip(found, wanted):
            self.assertIs(type(one), type(other))
