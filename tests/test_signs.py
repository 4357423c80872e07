"""Signs and texts (0.1, 0.4, 0.7, stage 1)."""

import itertools
import unittest

from cleandress.base import signs as module
from cleandress.base.integers import is_number
from cleandress.base.signs import MAX_PASSED, SIGNS, are_signs, is_sign, is_text, texts_upto
from cleandress.dress.holes import Hole
from cleandress.errors import InvalidNumber, InvalidText
from tests.values import ALL_SIGNS, every_value, no_integers, no_numbers, no_sign_tuples

PRINTABLE = [chr(code) for code in range(32, 127)] + ["\n"]


class Constants(unittest.TestCase):
    def test_values(self):
        self.assertEqual(SIGNS, "#$0123:_abcdefg")
        self.assertEqual(list(SIGNS), sorted(set(SIGNS)))
        self.assertEqual((MAX_PASSED, isinstance(MAX_PASSED, bool)), (2000, False))

    def test_defined_there(self):
        for function in (is_sign, is_text, are_signs, texts_upto):
            self.assertEqual(function.__module__, module.__name__)


class Numbers(unittest.TestCase):
    def test_bounds(self):
        self.assertEqual([value for value in range(-3, 9) if is_number(value, 0, 5)], [0, 1, 2, 3, 4, 5])

    def test_no_integers(self):
        for value in no_integers():
            self.assertIs(is_number(value, -(10**80), 10**80), False, repr(value)[:60])


class Signs(unittest.TestCase):
    def test_each_character(self):
        for character in PRINTABLE:
            self.assertIs(is_sign(character), character in list("#$0123:_abcdefg"), character)

    def test_other_values(self):
        for value in every_value():
            self.assertIs(is_sign(value), isinstance(value, str) and value in ("a", "#", "1"))
        for value in ("", "ab", "01", "#$", SIGNS, ("a",), ["a"], {"a": "a"}, 0, 1, True, None):
            self.assertIs(is_sign(value), False)


class Texts(unittest.TestCase):
    def test_texts(self):
        for value in ("", "a", "_", SIGNS, SIGNS[::-1], "gg##", "a" * 2000, "a" * 2001, SIGNS * 20000):
            self.assertIs(is_text(value), True)

    def test_each_character_anywhere(self):
        for character in PRINTABLE:
            for text in (character, character + "a", "a" + character, "a" + character + "g", character * 3):
                self.assertIs(is_text(text), character in list(SIGNS), text)

    def test_long_ones_with_one_wrong_character(self):
        self.assertIs(is_text("a" * 3999 + "h"), False)
        self.assertIs(is_text("a" * 2000 + "\n" + "a" * 1999), False)

    def test_other_values(self):
        for value in every_value():
            if not isinstance(value, str):
                self.assertIs(is_text(value), False)


class SignTuples(unittest.TestCase):
    def test_right_ones(self):
        for value in ((), ("a",), ("#",), ("#", "a"), ALL_SIGNS, ALL_SIGNS[1:], ALL_SIGNS[::2], (":", "_")):
            self.assertIs(are_signs(value), True)

    def test_all_pairs(self):
        for at, one in enumerate(SIGNS):
            for beside, other in enumerate(SIGNS):
                self.assertIs(are_signs((one, other)), at < beside)

    def test_wrong_ones(self):
        for value in no_sign_tuples():
            self.assertIs(are_signs(value), False, repr(value)[:60])
        for value in (list(ALL_SIGNS), SIGNS, "a", "", ["a"], [], {"a": 0}, {}, ("a", "b", "b")):
            self.assertIs(are_signs(value), False)


class TextsUpto(unittest.TestCase):
    def expected(self, signs, many):
        lengths = [itertools.product(signs, repeat=length) for length in range(many + 1)]
        return ["".join(text) for text in itertools.chain.from_iterable(lengths)]

    def test_all_in_order(self):
        cases = [(("a",), 12), (("#", "g"), 7), (("0", "1", "a"), 5), (ALL_SIGNS, 3), (("a", "b"), 12)]
        for signs, many in cases:
            self.assertEqual(list(texts_upto(signs, many)), self.expected(signs, many))

    def test_none_and_one(self):
        self.assertEqual(list(texts_upto(ALL_SIGNS, 0)), [""])
        self.assertEqual(list(texts_upto(("a",), 0)), [""])
        self.assertEqual(list(texts_upto(ALL_SIGNS, 1)), [""] + list(SIGNS))

    def test_order_is_that_of_python(self):
        found = list(texts_upto(("$", ":", "a"), 5))
        self.assertEqual(found, sorted(found, key=lambda text: (len(text), text)))

    def test_lazy(self):
        texts = texts_upto(ALL_SIGNS, 12)
        first = list(itertools.islice(texts, 20))
        self.assertEqual(first, [""] + list(SIGNS) + ["##", "#$", "#0", "#1"])

    def test_side_by_side(self):
        one, other = texts_upto(("a", "b"), 3), texts_upto(("a", "b"), 3)
        turns = []
        next(other)
        for text in one:
            turns.append((text, next(other, None)))
        expected = self.expected(("a", "b"), 3)
        self.assertEqual(turns, list(zip(expected, expected[1:] + [None])))

    def test_wrong_signs(self):
        for signs in no_sign_tuples() + [()]:
            texts = texts_upto(signs, 1)
            with self.assertRaises(InvalidText):
                next(texts)

    def test_wrong_numbers(self):
        for many in no_numbers(12):
            texts = texts_upto(("a",), many)
            with self.assertRaises(InvalidNumber) as held:
                next(texts)
            self.assertIs(held.exception.value, many)

    def test_bounds(self):
        self.assertEqual(list(texts_upto(("a",), 12))[-1], "a" * 12)
        for many in (-1, 13, 10**40, True, False):
            with self.assertRaises(InvalidNumber):
                list(texts_upto(("a",), many))

    def test_signs_first(self):
        for signs in ((), "ab", ["a"], ("b", "a"), None, 3, Hole((("a",), 0, None))):
            for many in (-1, 13, True, None, "1", (), [], {}):
                with self.assertRaises(InvalidText):
                    next(texts_upto(signs, many))

    def test_arguments_stay(self):
        signs = ["a", "b"]
        with self.assertRaises(InvalidText):
            next(texts_upto(signs, 2))
        self.assertEqual(signs, ["a", "b"])
