"""Roads, and what comes along them (0.4, 0.14, stage 5)."""

import unittest

from cleandress.clean.cleaners import Cleaner, dropping, only_with, plain_cleaner
from cleandress.dress.dresses import dressed_text
from cleandress.errors import InvalidOperation, InvalidRoad, InvalidText
from cleandress.walk import roads as module
from cleandress.walk.roads import along, comes_back
from tests.chosen import FEW, chosen_roads
from tests.examples import KEEP, PAD, PLAIN, STAMP, TRIM, UNSTAMP
from tests.values import every_value, no_texts
from tests.walks import comes_to_last, short_walks

ROAD = (KEEP, STAMP, UNSTAMP)
LONG = (KEEP, PAD, TRIM, STAMP, UNSTAMP)
NEVER = Cleaner((({}, 0, ""),), firsts=(None,))


def no_roads():
    """Values that are no roads, of each kind."""
    tuples = [(KEEP,), (KEEP, STAMP), (KEEP, STAMP, UNSTAMP, PAD), (KEEP,) * 3, (PAD,) * 3, (STAMP, UNSTAMP, STAMP)]
    tuples += [(KEEP, UNSTAMP, STAMP), (KEEP, STAMP, None), (None, STAMP, KEEP), (KEEP, "", KEEP), list(ROAD), (ROAD,)]
    tuples += [LONG + (PAD, TRIM), LONG[:4], LONG[1:], LONG[:4] + (PAD,), LONG[:3] + (KEEP, KEEP), {0: KEEP}, [ROAD]]
    tuples += [(KEEP, STAMP, [UNSTAMP]), (str(KEEP), STAMP, UNSTAMP), LONG[:3] + (None, KEEP), (KEEP, PAD, PAD, PAD, KEEP)]
    return tuples + every_value()


class Interface(unittest.TestCase):
    def test_defined_there(self):
        for value in (along, comes_back):
            self.assertEqual(value.__module__, module.__name__)


class Along(unittest.TestCase):
    def test_three_parts(self):
        self.assertEqual(along((TRIM, PAD, TRIM), "a__", (PAD.dressed("a", ("_",)),)), ("a__", "a", "a_", "a"))
        self.assertEqual(along((KEEP, PAD, KEEP), "", (PAD.dressed("", ("___",)),)), ("", "", "___", "___"))

    def test_five_parts(self):
        dressings = (PAD.dressed("$_", ("_",)), STAMP.dressed("$", ("ab",)))
        self.assertEqual(along(LONG, "$_", dressings), ("$_", "$_", "$__", "$", "$ab:", "$"))
        self.assertIs(comes_back(LONG, "$_", dressings), True)

    def test_up_to_the_first_that_refuses(self):
        first = (only_with("a"), STAMP, UNSTAMP)
        self.assertEqual(along(first, "$", ()), ("$", None))
        self.assertIs(comes_back(first, "$", ()), None)
        last = (KEEP, PAD, only_with("_"))
        none, one = (PAD.dressed("a", ("",)),), (PAD.dressed("a", ("_",)),)
        self.assertEqual((along(last, "a", none), along(last, "a", one)), (("a", "a", "a", None), ("a", "a", "a_", "a_")))
        self.assertIs(comes_back(last, "a", none), False)
        middle = (KEEP, PAD, only_with("_"), PLAIN, KEEP)
        self.assertEqual(along(middle, "a", none), ("a", "a", "a", None))
        self.assertIs(comes_back(middle, "a", none), None)
        self.assertEqual(along(middle, "a", one + (PLAIN.dressed("a_", ()),)), ("a", "a", "a_", "a_", "a_", "a_"))
        both = (KEEP, PAD, KEEP, PLAIN, NEVER)
        self.assertEqual(along(both, "", (((), (("filled", ""),)), ((), ()))), ("", "", "", "", "", None))
        self.assertIs(comes_back(both, "", (((), (("filled", ""),)), ((), ()))), False)

    def test_comes_back(self):
        for filling, wanted in (("", True), ("_", False)):
            self.assertIs(comes_back((KEEP, PAD, KEEP), "a", (PAD.dressed("a", (filling,)),)), wanted)
        # What was handed to the last dress counts, not the text at the beginning.
        road = (dropping(("a",)), PLAIN, KEEP)
        self.assertIs(comes_back(road, "ab", (PLAIN.dressed("b", ()),)), True)
        five = (KEEP, PAD, TRIM, PLAIN, KEEP)
        self.assertIs(comes_back(five, "_", (PAD.dressed("_", ("",)), PLAIN.dressed("", ()))), True)

    def test_short_walks(self):
        for parts in (3, 5):
            for road in chosen_roads(41, 25, parts):
                for text, dressings, told in short_walks(road, FEW, 2, 1):
                    self.assertEqual(along(road, text, dressings), told)
                    wanted = told[-1] == told[-3] if comes_to_last(road, told) else None
                    self.assertIs(comes_back(road, text, dressings), wanted)

    def test_long_texts(self):
        twice = Cleaner((({("a", None): ("aa", 0)}, 0, ""),))
        handed = "a" * 4000
        dressing = ((),) + ((("own", "a"),),) * 4000 + ((("filled", "_" * 9000),),)
        told = along((twice, PAD, TRIM), "a" * 2000, (dressing,))
        self.assertEqual((told[1], len(told[2]), told[3]), (handed, 13000, handed))
        self.assertIs(comes_back((twice, PAD, TRIM), "a" * 2000, (dressing,)), True)


class Errors(unittest.TestCase):
    def wrong(self, error, road, text, dressings):
        for function in (along, comes_back):
            with self.assertRaises(error):
                function(road, text, dressings)

    def test_roads(self):
        for road in no_roads():
            for text, dressings in (("a", ()), (None, None), ("a" * 2001, [])):
                self.wrong(InvalidRoad, road, text, dressings)

    def test_texts(self):
        for text in no_texts():
            for dressings in ((), None, [()], (0,)):
                self.wrong(InvalidText, ROAD, text, dressings)

    def test_dressings(self):
        right = STAMP.dressed("$", ("a",))
        self.assertIs(comes_back(ROAD, "$", (right,)), True)
        wrong = [(), (right, right), [right], right, (list(right),), (STAMP.dressed("a", ()),), (STAMP.dressed("$$", ("", "")),)]
        wrong += [(right, None), (right, ()), (None,), {0: right}, (right[:-1],), ((right,),), ("$a:",), "$a:"]
        for dressings in wrong + every_value() + [(value,) for value in every_value()]:
            self.wrong(InvalidOperation, ROAD, "$", dressings)

    def test_dressings_of_five(self):
        first, second = PAD.dressed("$_", ("_",)), STAMP.dressed("$", ("",))
        self.assertIs(comes_back(LONG, "$_", (first, second)), True)
        other = STAMP.dressed("$_", ("",))
        wrong = [(first,), (second,), (second, first), (first, second, ()), (first, other), (first, second, second), (first, None)]
        for dressings in wrong:
            self.wrong(InvalidOperation, LONG, "$_", dressings)

    def test_none_that_is_not_reached(self):
        self.wrong(InvalidOperation, (NEVER, STAMP, UNSTAMP), "a", (STAMP.dressed("a", ()),))
        self.wrong(InvalidOperation, (NEVER, STAMP, UNSTAMP), "a", None)
        middle = (KEEP, PLAIN, NEVER, PLAIN, KEEP)
        one = PLAIN.dressed("a", ())
        self.assertIs(comes_back(middle, "a", (one,)), None)
        for dressings in ((), (one, one), (one, None)):
            self.wrong(InvalidOperation, middle, "a", dressings)

    def test_nothing_changes(self):
        dressing = STAMP.dressed("$", ("a",))
        along(ROAD, "$", (dressing,))
        self.wrong(InvalidOperation, ROAD, "$", [dressing])
        self.assertEqual(ROAD, (plain_cleaner(), STAMP, UNSTAMP))
        self.assertEqual(dressed_text(dressing), "$a:")
