"""Errors: what they are derived from, and what they keep (1.1)."""

import unittest

from cleandress import errors
from tests.values import every_value

WITH_MESSAGE = (
    "InvalidText",
    "InvalidHole",
    "InvalidDress",
    "InvalidCleaner",
    "InvalidRoad",
    "InvalidStanding",
    "InvalidLines",
    "InvalidOperation",
)
KEPT = {
    "ParseError": "number",
    "InvalidNumber": "value",
    "UnknownName": "name",
    "InvalidFilling": "index",
    "NothingToUndo": "many",
    "Refused": "text",
    "TooMany": "limit",
}
OUTSIDE = {
    "InvalidNumber": IndexError,
    "UnknownName": KeyError,
    "InvalidFilling": LookupError,
    "NothingToUndo": LookupError,
    "Refused": ArithmeticError,
    "TooMany": OverflowError,
}
PYTHONS = (
    ValueError, TypeError, LookupError, IndexError, KeyError, ArithmeticError, OverflowError,
    ZeroDivisionError, RuntimeError, AttributeError, NotImplementedError, StopIteration, AssertionError,
    NameError, OSError, MemoryError, UnicodeError, FloatingPointError,
)
NAMES = ("DressError",) + WITH_MESSAGE + tuple(KEPT)


def caught(error, kind):
    try:
        try:
            raise error
        except kind:
            return True
    except BaseException:
        return False


def told_kinds(name):
    """The classes by which an error is caught, as the document tells."""
    own = getattr(errors, name)
    if name in OUTSIDE:
        return {own} | {kind for kind in PYTHONS if issubclass(OUTSIDE[name], kind)}
    return {own, errors.DressError, ValueError}


class Classes(unittest.TestCase):
    def test_bases(self):
        self.assertEqual(errors.DressError.__bases__, (ValueError,))
        for name in WITH_MESSAGE + ("ParseError",):
            self.assertEqual(getattr(errors, name).__bases__, (errors.DressError,), name)
        for name, base in OUTSIDE.items():
            self.assertEqual(getattr(errors, name).__bases__, (base,), name)

    def test_defined_there(self):
        for name in NAMES:
            self.assertEqual(getattr(errors, name).__module__, "cleandress.errors")
            self.assertEqual(getattr(errors, name).__name__, name)

    def test_caught_by_these_and_no_other(self):
        kinds = PYTHONS + tuple([getattr(errors, name) for name in NAMES])
        for name in NAMES:
            error = getattr(errors, name)("told")
            for kind in kinds:
                self.assertEqual(caught(error, kind), kind in told_kinds(name), (name, kind))


class Kept(unittest.TestCase):
    def test_any_value(self):
        for name, attribute in KEPT.items():
            for value in every_value() + [10**5000, object(), ValueError("a")]:
                error = getattr(errors, name)(value)
                self.assertIs(getattr(error, attribute), value, name)

    def test_kept_behind_raise(self):
        for name, attribute in KEPT.items():
            value = [name]
            with self.assertRaises(getattr(errors, name)) as held:
                raise getattr(errors, name)(value)
            self.assertIs(getattr(held.exception, attribute), value)

    def test_two_errors_keep_their_own(self):
        for name, attribute in KEPT.items():
            one, two = getattr(errors, name)(1), getattr(errors, name)(2)
            self.assertEqual([getattr(one, attribute), getattr(two, attribute)], [1, 2])

    def test_message(self):
        for name in ("DressError",) + WITH_MESSAGE:
            with self.assertRaises(getattr(errors, name)):
                raise getattr(errors, name)("a message")

    def test_these_need_what_they_keep(self):
        for name in KEPT:
            with self.assertRaises(TypeError):
                getattr(errors, name)()
