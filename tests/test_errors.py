"""Points 1.1 and 1.2: the errors."""

import unittest

from joinhouse import errors
from tests.samples import SIXTY_ONE, VALUES

PLAIN = (
    "InvalidQuestion",
    "InvalidClause",
    "InvalidStore",
    "InvalidTable",
    "InvalidRow",
    "InvalidReading",
    "InvalidMap",
    "InvalidKnot",
    "InvalidProgram",
    "InvalidOrder",
    "InvalidBags",
    "InvalidLine",
    "InvalidScheme",
    "InvalidRule",
    "InvalidSplit",
    "InvalidForest",
    "InvalidSizes",
    "InvalidKeys",
    "InvalidWeights",
    "InvalidOperation",
)

# The class, the one class that it is derived from, and the attribute in which it keeps what it takes.
KEEPING = (
    ("ParseError", errors.JoinError, "number"),
    ("UnknownName", KeyError, "word"),
    ("NotLayered", LookupError, "reason"),
    ("InvalidNumber", IndexError, "value"),
    ("NothingToUndo", RuntimeError, "many"),
    ("TooMany", OverflowError, "limit"),
    ("Refused", ArithmeticError, "pledge"),
)

NAMES = ("JoinError",) + PLAIN + tuple(name for name, base, kept in KEEPING)


class ErrorsTest(unittest.TestCase):

    def test_all_are_there(self):
        for name in NAMES:
            self.assertEqual(getattr(errors, name).__name__, name)
            self.assertEqual(getattr(errors, name).__module__, "joinhouse.errors")

    def test_direct_bases(self):
        self.assertEqual(errors.JoinError.__bases__, (ValueError,))
        for name in PLAIN:
            self.assertEqual(getattr(errors, name).__bases__, (errors.JoinError,), name)
        for name, base, _ in KEEPING:
            self.assertEqual(getattr(errors, name).__bases__, (base,), name)

    def test_not_derived_from_one_another(self):
        under = PLAIN + ("ParseError",)
        for name in NAMES:
            for other in NAMES:
                told = issubclass(getattr(errors, name), getattr(errors, other))
                self.assertEqual(told, name == other or (other == "JoinError" and name in under), (name, other))

    def test_plain_ones_take_a_message(self):
        for name in ("JoinError",) + PLAIN:
            made = getattr(errors, name)("some words")
            self.assertIsInstance(made, ValueError)
            with self.assertRaises(getattr(errors, name)):
                raise made

    def test_plain_ones_are_caught_by_name_and_base(self):
        for name in PLAIN:
            for base in (getattr(errors, name), errors.JoinError, ValueError):
                try:
                    raise getattr(errors, name)("some words")
                except base as caught:
                    self.assertIs(caught.__class__, getattr(errors, name))

    def test_keeping_ones_are_caught_by_name_and_base(self):
        for name, base, kept in KEEPING:
            for catching in (getattr(errors, name), base):
                try:
                    raise getattr(errors, name)("some")
                except catching as caught:
                    self.assertEqual(getattr(caught, kept), "some")

    def test_keeping_ones_are_not_caught_by_others(self):
        for name, _, _ in KEEPING:
            for other, _, _ in KEEPING:
                if name == other:
                    continue
                with self.assertRaises(getattr(errors, name)):
                    try:
                        raise getattr(errors, name)(3)
                    except getattr(errors, other):
                        self.fail(f"{name} is caught as {other}")

    def test_what_they_keep(self):
        for name, _, kept in KEEPING:
            for value in VALUES + (SIXTY_ONE ** 5, -(SIXTY_ONE ** 5)):
                self.assertIs(getattr(getattr(errors, name)(value), kept), value)

    def test_they_keep_nothing_of_one_another(self):
        one, other = errors.TooMany(5), errors.TooMany(6)
        self.assertEqual((one.limit, other.limit), (5, 6))

    def test_parse_error_keeps_an_index_or_none(self):
        self.assertEqual(errors.ParseError(0).number, 0)
        self.assertIsNone(errors.ParseError(None).number)


if __name__ == "__main__":
    unittest.main()
