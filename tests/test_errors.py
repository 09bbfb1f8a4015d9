import unittest

from graincourse import errors
from graincourse.errors import GrainError, MissingError, TooLarge

PLAIN = ["InvalidFraction", "InvalidWeights", "InvalidWorths", "InvalidAnswer", "NothingExpected", "NothingLeft"]
WITH_FIELD = {
    "InvalidStatement": ("place", 0),
    "TooLarge": ("limit", 60),
    "UnknownPlayer": ("player", -3),
    "DuplicatePiece": ("name", "a.1"),
    "BrokenRule": ("player", 2),
    "ParseError": ("place", 7),
    "InvalidName": ("name", ""),
    "InUse": ("name", "half"),
    "Cycle": ("name", "half"),
    "Unfit": ("name", "half"),
    "InvalidCommand": ("index", 4),
    "InvalidDocument": ("row", 10 ** 30),
    "UnknownPiece": ("name", "whole"),
    "UnknownName": ("name", "{0}\n"),
}
MISSING = ["UnknownPiece", "UnknownName"]


class ErrorsTest(unittest.TestCase):
    def test_example(self):
        error = TooLarge(60)
        self.assertEqual([error.limit, error.word], [60, "toolarge"])

    def test_bases(self):
        self.assertTrue(issubclass(GrainError, ValueError))
        self.assertTrue(issubclass(MissingError, LookupError))
        self.assertFalse(issubclass(GrainError, LookupError))
        self.assertFalse(issubclass(MissingError, ValueError))
        for name in [*PLAIN, *WITH_FIELD]:
            base = MissingError if name in MISSING else GrainError
            self.assertEqual(getattr(errors, name).__bases__, (base,), name)

    def test_without_field(self):
        for name in PLAIN:
            error = getattr(errors, name)()
            self.assertEqual(error.word, name.lower())

    def test_with_field(self):
        for name, (field, value) in WITH_FIELD.items():
            for error in (getattr(errors, name)(value), getattr(errors, name)(**{field: value})):
                self.assertEqual([error.word, getattr(error, field)], [name.lower(), value])

    def test_field_belongs_to_the_object(self):
        one, other = TooLarge(60), TooLarge(200)
        self.assertEqual([one.limit, other.limit], [60, 200])

    def test_caught_by_base(self):
        for base, error in ((ValueError, TooLarge(1)), (LookupError, errors.UnknownName("a"))):
            with self.assertRaises(base):
                raise error


if __name__ == "__main__":
    unittest.main()
