"""Lags (0.4, 0.18, stage 5)."""

import random
import unittest

from cleandress.errors import InvalidOperation, InvalidText
from cleandress.walk.lags import EVEN, is_lag, lag_after
from cleandress.walk.standings import lag_behind
from tests.chosen import FEW, chosen_text
from tests.oracle import all_texts
from tests.values import every_value, no_texts


class Lags(unittest.TestCase):
    def test_all_short_ones(self):
        for ahead in all_texts(("a", "b"), 2):
            for behind in all_texts(("a", "b"), 2):
                for read in all_texts(("a", "b"), 2):
                    for written in all_texts(("a", "b"), 2):
                        if ahead == "" or behind == "":
                            self.told(ahead, behind, read, written)

    def told(self, ahead, behind, read, written):
        one, other = ahead + read, behind + written
        if one[:len(other)] == other:
            wanted = (one[len(other):], "")
        elif other[:len(one)] == one:
            wanted = ("", other[len(one):])
        else:
            wanted = None
        self.assertEqual(lag_behind((ahead, behind), read, written), wanted)

    def test_along_texts(self):
        # Piece by piece the lag is that of what has been read and of what has been written.
        chance = random.Random(61)
        for _ in range(300):
            lag, read, written = EVEN, "", ""
            for _ in range(6):
                more, other = chosen_text(chance, 2), chosen_text(chance, 2)
                lag, read, written = lag_after(lag, more, other), read + more, written + other
                if lag is None:
                    self.assertFalse(read.startswith(written) or written.startswith(read))
                else:
                    self.assertEqual(read + lag[1], written + lag[0])
                    self.assertIn("", lag)

    def test_long_ones(self):
        self.assertEqual(lag_behind(("a" * 5000, ""), "b" * 2000, "a" * 2000), ("a" * 3000 + "b" * 2000, ""))
        self.assertEqual(lag_behind(("", "a" * 5000), "a" * 2000, ""), ("", "a" * 3000))
        self.assertEqual(lag_behind(("", ""), "a" * 2000, "a" * 2000), ("", ""))
        self.assertIs(lag_behind(("", "a" * 5000), "b", ""), None)

    def test_nothing_follows_where_neither_begins(self):
        self.assertIs(lag_after(None, "a", "a"), None)


class Errors(unittest.TestCase):
    def test_lags(self):
        wrong = [("a", "b"), ("a", "a"), ["", ""], ("",), ("", "", ""), (None, ""), ("", None), ("h", ""), ("", ["a"]), "", None]
        wrong += [("", 0), (True, ""), (("",), ""), {"": ""}]
        for lag in wrong + every_value():
            self.assertIs(is_lag(lag), False)
            for read, written in (("", ""), (None, None), ("a" * 2001, "h")):
                with self.assertRaises(InvalidOperation):
                    lag_behind(lag, read, written)

    def test_texts(self):
        for value in no_texts():
            for lag in (("", ""), ("a", ""), ("", "a")):
                for read, written in ((value, ""), ("", value), (value, value), (value, None)):
                    with self.assertRaises(InvalidText):
                        lag_behind(lag, read, written)

    def test_signs(self):
        for sign in FEW:
            self.assertEqual(lag_behind(("", ""), sign, sign), EVEN)
