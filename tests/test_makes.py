"""Texts that are made: whether some dressing has a text as its dressed text (0.8, 0.10, stage 3)."""

import random
import re
import time
import unittest

from cleandress.base.signs import SIGNS
from cleandress.dress.dresses import Dress, dressed_text
from cleandress.dress.holes import Hole
from cleandress.dress.makers import MANY, ONE, PERHAPS, bits_of, places_onward
from tests.chosen import FEW, chosen_dress
from tests.examples import PAD, PLAIN, STAMP
from tests.oracle import all_texts, chosen_holes, pattern_of
from tests.test_dressings import told_rows
from tests.values import every_value, short


def told_pattern(dress, text):
    """Python's own pattern for the dressed texts."""
    parts = []
    for pattern, sign in told_rows(dress, text):
        for part in pattern:
            if part[0] == "hole":
                parts.append(pattern_of(dress[part[1]].runs).pattern)
            else:
                parts.append(re.escape(sign if part[0] == "own" else part[1]))
    return re.compile("".join(parts))


class Made(unittest.TestCase):
    def test_examples(self):
        self.assertEqual([STAMP.makes("$$", text) for text in ("$:$:", "$ab:$bbb:", "$:$", "$:a$:")], [True, True, False, False])
        self.assertEqual([PAD.makes("a_", text) for text in ("a_", "a__", "a", "a_a", "")], [True, True, False, False, False])
        self.assertEqual([PLAIN.makes("", ""), PLAIN.makes("", "a"), PLAIN.makes("a", ""), PLAIN.makes("a", "a")], [True, False, False, True])

    def test_against_patterns(self):
        chance = random.Random(21)
        texts = all_texts(FEW, 5)
        for _ in range(40):
            dress = chosen_dress(chance, states=3, moves=3)
            for text in ("", "a", "b_", "aab"):
                pattern = told_pattern(dress, text)
                wanted = [value for value in texts if pattern.fullmatch(value)]
                self.assertEqual([value for value in texts if dress.makes(text, value)], wanted)

    def test_against_dressings(self):
        chance = random.Random(22)
        for _ in range(60):
            dress = chosen_dress(chance, states=3, moves=3)
            for text in ("", "b", "ab_"):
                for at, dressing in enumerate(dress.dressings(text, many=2)):
                    if at == 30:
                        break
                    self.assertIs(dress.makes(text, dressed_text(dressing)), True)

    def test_holes_of_many_runs(self):
        texts = all_texts(("a", "b"), 9)
        for hole in chosen_holes(23, ("a", "b"), 30):
            dress = Dress((({"b": ((("hole", "x"), ("own",)), 0)}, 0, (("hole", "x"),)),), {"x": hole})
            pattern = re.compile(pattern_of(hole.runs).pattern + "b" + pattern_of(hole.runs).pattern)
            for text in texts[::3]:
                self.assertIs(dress.makes("b", text), pattern.fullmatch(text) is not None)

    def test_values_that_are_no_texts(self):
        for value in every_value() + ["a\n", "A", ["a"], ("a",), "h"]:
            wanted = isinstance(value, str) and re.fullmatch("a_*", value) is not None
            self.assertIs(PAD.makes("a", value), wanted, short(value))
        every = Dress((({}, 0, (("hole", "x"),)),), {"x": Hole((tuple(SIGNS), 0, None))})
        for value in every_value():
            wanted = isinstance(value, str) and set(value) <= set(SIGNS)
            self.assertIs(every.makes("", value), wanted, short(value))

    def test_values_of_any_length(self):
        for many in (2000, 2001, 100000):
            self.assertIs(PAD.makes("a" * 2000, "a" * 2000 + "_" * many), True)
            self.assertIs(PAD.makes("a" * 2000, "a" * 2000 + "_" * many + "a"), False)
            self.assertIs(PAD.makes("a" * 1999, "a" * 2000 + "_" * many), False)

    def test_in_reasonable_time(self):
        hole = Hole((tuple(SIGNS), 0, None), (("a", "b"), 1, 3), (tuple(SIGNS), 0, None), (("a",), 0, 3))
        dress = Dress((({"a": ((("hole", "x"), ("hole", "x"), ("own",)), 0)}, 0, ()),), {"x": hole})
        begin = time.perf_counter()
        self.assertIs(dress.makes("a" * 2000, "ba" * 20000), True)
        self.assertIs(dress.makes("a" * 2000, "b" * 20000), False)
        self.assertIs(dress.makes("a" * 2000, "a" * 5999), False)
        self.assertIs(dress.makes("a" * 2000, "a" * 6000), True)
        self.assertLess(time.perf_counter() - begin, 20)


class Bits(unittest.TestCase):
    def test_bits(self):
        self.assertEqual([bits_of([]), bits_of([True]), bits_of([False, True, True])], [0, 1, 6])

    def test_onward(self):
        # Tried one by one: places go on through free slots, one slot further each time.
        for free in range(64):
            for places in range(128):
                wanted = places
                for at in range(6):
                    if wanted >> at & 1 and free >> at & 1:
                        wanted |= 1 << at + 1
                self.assertEqual(places_onward(places, free), wanted)

    def test_kinds(self):
        self.assertEqual(len({ONE, PERHAPS, MANY}), 3)
