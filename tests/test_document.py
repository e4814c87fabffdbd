"""The worked lines of the document, and the names that the interface lists."""

import doctest
import importlib
import inspect
import unittest

LINES = r'''
>>> from longstrike.books import Book
>>> book = Book([("house", True), ("room", True)], [("of", "room", "house", "fall")], ["bare house"])
>>> [book.checks(), len(book), "bare house" in book, book.markable()]
[['bare house'], 1, True, ['house', 'room']]
>>> book.questions()
['loose of', 'half of', 'unjust of', 'undue house', 'undue room', 'stuck']
>>> [book + "lone" == book, book <= book + "lone", (book + "lone") - "bare house" < book]
[False, True, False]
>>> from longstrike.stores import Store
>>> store = Store(book)
>>> store.put("house", 0)
>>> store.put("room", 4, {"of": 0})
>>> store.strike("house", 0)
>>> [store.pieces(), store.fits("spread of"), store.fits("fell house")]
[['spread of', 'fell house', 'fell room'], [4], []]
>>> store.look(0, "spread of", [4])
>>> [store.do(0), store.rows("room"), store.mark("house", 0)]
[[4], [(4, {'of': 0}, 'of')], 'strike']
>>> store.look(0, "fell room", [4])
>>> [store.do(0), store.fits("fell house"), store.wrongs(), store.is_stuck()]
[[4], [0], [], False]
>>> from longstrike.resting import rest, whole
>>> [rest(store) == whole(store), whole(store).rows("house"), store.rows("house")]
[True, [], [(0, {}, 'strike')]]
>>> from longstrike.judging import judge
>>> word, weaving = judge(book, "loose of")
>>> [word, len(weaving), judge(book + "again house", "loose of")[0]]
['once', 5, 'never']
>>> from longstrike.weavings import played, shows
>>> [shows(played(book, weaving), "loose of"), shows(played(book, weaving[:4]), "loose of")]
[True, False]
>>> from longstrike.leasts import least
>>> least(book, ["loose of"], ["lone", "again house", "turn of", "put of"])
[['again house'], ['put of', 'turn of', 'lone']]
>>> from longstrike.likeness import idle, parting
>>> [idle(Book([("a", False)], [], ["bare a", "fresh"])), parting(book, book + "again house") is None]
[['bare a', 'fresh'], False]
>>> from longstrike.tables import is_paper, ranks, table
>>> table(Book([("a", False)]), "undue a")
[('new', ''), ('plain', '')]
>>> [is_paper(book, "undue room", [("new", "")]), ranks(book + "bare room")]
[False, [('house', 0), ('room', 1)]]
>>> from longstrike.book_texts import write_book
>>> write_book(book).split("\n")
['open kind house', 'open kind room', 'column of from room to house fall', 'check bare house']
>>> from longstrike.weaving_texts import write_weaving
>>> write_weaving([("put", "room", 4, (("of", 0),)), ("look", 1, "fell house", (0, 2))]).split("\n")
['put room 4 of=0', 'look 1 fell house 0 2']
>>> from longstrike.yards import Yard
>>> yard = Yard(book)
>>> yard.deed(("put", "house", 0, ()))
>>> yard.deed(("strike", "house", 0))
>>> [len(yard), yard.since("loose of"), yard.under(book + "fresh"), yard.store().mark("house", 0)]
[2, None, None, 'strike']
>>> yard.undo()
>>> yard.weaving()
[('put', 'house', 0, ())]
'''

FUNCTIONS = {
    "longstrike.weavings": {
        "shows": "(store, question)", "done": "(store, deed)", "played": "(book, weaving, size=1)",
    },
    "longstrike.tables": {
        "table": "(book, question)", "ranks": "(book)", "is_paper": "(book, question, paper)",
    },
    "longstrike.judging": {"judge": "(book, question)"},
    "longstrike.leasts": {"least": "(book, questions, free)"},
    "longstrike.likeness": {"parting": "(one, other)", "idle": "(book)"},
    "longstrike.resting": {"whole": "(store)", "rest": "(store)"},
    "longstrike.book_texts": {"write_book": "(book)", "read_book": "(text)"},
    "longstrike.weaving_texts": {"write_weaving": "(weaving)", "read_weaving": "(text)"},
}

CLASSES = {
    ("longstrike.books", "Book"): {
        "__init__": "(self, kinds, columns=(), checks=())", "kinds": "(self)", "columns": "(self)", "menu": "(self)",
        "checks": "(self)", "columns_of": "(self, kind)", "markable": "(self)", "questions": "(self)",
        "__len__": None, "__contains__": None, "__add__": None, "__sub__": None, "__or__": None, "__and__": None,
        "__eq__": None, "__le__": None, "__lt__": None,
    },
    ("longstrike.stores", "Store"): {
        "__init__": "(self, book, size=1)", "put": "(self, kind, number, owners=())",
        "turn": "(self, kind, number, column, owner)", "strike": "(self, kind, number)", "pieces": "(self)",
        "fits": "(self, piece)", "look": "(self, hand, piece, numbers)", "do": "(self, hand)", "stop": "(self, hand)",
        "rows": "(self, kind)", "owner": "(self, kind, number, column)", "mark": "(self, kind, number)",
        "lists": "(self)", "book": "(self)", "size": "(self)", "wrongs": "(self)", "loose": "(self, column)",
        "half": "(self, column)", "is_stuck": "(self)", "copy": "(self)", "__eq__": None,
    },
    ("longstrike.yards", "Yard"): {
        "__init__": "(self, book, size=1)", "deed": "(self, deed)", "__iadd__": None, "undo": "(self)",
        "redo": "(self)", "weaving": "(self)", "__len__": None, "store": "(self)", "book": "(self)",
        "since": "(self, question)", "under": "(self, book)", "rebooked": "(self, book)", "trial": "(self, work)",
        "copy": "(self)", "__eq__": None,
    },
}


class Document(unittest.TestCase):

    def test_worked_lines(self):
        test = doctest.DocTestParser().get_doctest(LINES, {}, "DOC", None, 0)
        told = []
        result = doctest.DocTestRunner(verbose=False).run(test, out=told.append)
        self.assertEqual((result.failed, result.attempted), (0, LINES.count(">>>")), "".join(told))

    def test_functions_stand_in_their_files(self):
        for module, functions in FUNCTIONS.items():
            for name, signature in functions.items():
                function = getattr(importlib.import_module(module), name)
                self.assertEqual((function.__module__, function.__name__), (module, name))
                self.assertEqual(str(inspect.signature(function)), signature)

    def test_classes_stand_in_their_files_with_their_methods(self):
        for (module, name), methods in CLASSES.items():
            found = getattr(importlib.import_module(module), name)
            self.assertEqual((found.__module__, found.__name__), (module, name))
            for method, signature in methods.items():
                self.assertIn(method, vars(found))
                if signature is not None:
                    self.assertEqual(str(inspect.signature(vars(found)[method])), signature)


if __name__ == "__main__":
    unittest.main()
