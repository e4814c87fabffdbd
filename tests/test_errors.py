"""The errors that the interface lists."""

import unittest

from longstrike import errors
from tests.cases import Case, odd_things

LISTED = {
    "BadName": ("name",), "NameInUse": ("name",), "UnknownKind": ("kind",), "UnknownColumn": ("column",),
    "BadRule": ("rule",), "UnknownCheck": ("check",), "UnlikeBooks": (), "BadNumber": ("number",),
    "Taken": ("kind", "number"), "Used": ("kind", "number"), "NoRow": ("kind", "number"), "OwnOwner": ("column",),
    "Refused": ("check",), "NotOpen": ("kind",), "Busy": ("hand",), "Idle": ("hand",), "BadPiece": ("piece",),
    "BadList": ("numbers",), "NoFit": ("number",), "BadQuestion": ("question",), "BadDeed": (),
    "BadWeaving": ("index",), "NothingToUndo": (), "NothingToRedo": (), "BadLine": ("index",),
}


class Errors(Case):

    def test_bases(self):
        self.assertEqual(errors.StrikeError.__bases__, (ValueError,))
        for word in LISTED:
            self.assertEqual(getattr(errors, word).__bases__, (errors.StrikeError,), word)

    def test_defined_in_the_file(self):
        for word in [*LISTED, "StrikeError"]:
            self.assertEqual(getattr(errors, word).__module__, "longstrike.errors")
            self.assertEqual(getattr(errors, word).__name__, word)

    def test_made_by_place_of_any_objects(self):
        for word, names in LISTED.items():
            for thing in odd_things() + [0, 5, "of"]:
                made = getattr(errors, word)(*[thing] * len(names))
                self.assertEqual(list(vars(made)), list(names))
                for name in names:
                    self.assertIs(getattr(made, name), thing)
                self.assertIsInstance(str(made), str)

    def test_made_by_name_of_any_objects(self):
        for word, names in LISTED.items():
            for thing in odd_things():
                made = getattr(errors, word)(**{name: thing for name in names})
                for name in names:
                    self.assertIs(getattr(made, name), thing)
                self.assertIsInstance(str(made), str)

    def test_attributes_keep_their_places(self):
        for word in ("Taken", "Used", "NoRow"):
            made = getattr(errors, word)("a", 7)
            self.assertEqual([made.kind, made.number], ["a", 7])
            made = getattr(errors, word)(number=7, kind="a")
            self.assertEqual([made.kind, made.number], ["a", 7])

    def test_as_many_arguments_as_listed(self):
        for word, names in LISTED.items():
            with self.assertRaises(TypeError):
                getattr(errors, word)(*range(len(names) + 1))
            if names:
                with self.assertRaises(TypeError):
                    getattr(errors, word)()

    def test_caught_as_value_error(self):
        for word, names in LISTED.items():
            with self.assertRaises(ValueError):
                raise getattr(errors, word)(*range(len(names)))


if __name__ == "__main__":
    unittest.main()
