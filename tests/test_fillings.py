"""Fillings and their counts (0.1, 0.8, stage 2)."""

import itertools
import math
import random
import unittest

from cleandress.base.signs import SIGNS
from cleandress.dress.holes import Hole
from tests.oracle import all_texts, chosen_holes, pattern_of, told_fillings
from tests.values import ALL_SIGNS, every_value

A, B, AB = ("a",), ("b",), ("a", "b")

# Runs that share signs, so that one text can be made in several ways; and all edges of the bounds.
SHARED = [
    ((A, 0, None), (A, 0, None)),
    ((AB, 0, None), (A, 1, 1), (AB, 0, 2)),
    ((AB, 0, 3), (AB, 0, 3), (AB, 0, 3), (AB, 0, 3)),
    ((AB, 1, 2), (A, 0, 1), (B, 2, None), (AB, 3, 3)),
    ((A, 3, None), (AB, 0, 1), (A, 2, 2)),
]
EDGES = [((AB, low, high),) for low in range(4) for high in (None, 1, 2, 3) if high is None or high >= low]


class Membership(unittest.TestCase):
    def test_short_texts(self):
        for runs in SHARED + EDGES:
            hole = Hole(*runs)
            told = told_fillings(runs, "abc", 6)
            self.assertEqual([text for text in all_texts("abc", 6) if text in hole], told)

    def test_bounds_of_one_run(self):
        for low, high in [(run[1], run[2]) for (run,) in EDGES]:
            hole = Hole((A, low, high))
            for many in range(9):
                self.assertIs("a" * many in hole, many >= low and (high is None or many <= high))

    def test_chosen(self):
        for hole in chosen_holes(1, "#a", 60) + chosen_holes(2, "$_b", 30):
            pattern = pattern_of(hole.runs)
            signs = "#a" if hole.runs[0][0][0] in "#a" else "$_b"
            for text in all_texts(signs, 6):
                self.assertIs(text in hole, pattern.fullmatch(text) is not None, (hole.runs, text))

    def test_all_signs(self):
        chance = random.Random(3)
        for hole in chosen_holes(4, SIGNS, 100):
            pattern = pattern_of(hole.runs)
            for _ in range(40):
                text = "".join([chance.choice(SIGNS) for _ in range(chance.randint(0, 14))])
                self.assertIs(text in hole, pattern.fullmatch(text) is not None)

    def test_any_length(self):
        hole = Hole((ALL_SIGNS, 0, None), (A, 2, 3))
        self.assertIs(SIGNS * 20000 + "aa" in hole, True)
        self.assertIs(SIGNS * 20000 + "ab" in hole, False)
        self.assertIs("a" * 2001 in hole, True)
        self.assertIs("a" * 300000 in Hole((A, 0, 3), (A, 0, 3)), False)

    def test_no_texts(self):
        hole = Hole((ALL_SIGNS, 0, None))
        for value in every_value():
            text = isinstance(value, str) and not set(value) - set(SIGNS)
            self.assertIs(value in hole, text, repr(value)[:60])

    def test_only_signs_of_the_runs(self):
        for sign in SIGNS:
            hole = Hole(((sign,), 0, None))
            self.assertEqual([other for other in SIGNS if other in hole], [sign])


class Shortest(unittest.TestCase):
    def test_first_of_all(self):
        for hole in [Hole(*runs) for runs in SHARED + EDGES] + chosen_holes(5, SIGNS, 60):
            self.assertEqual(hole.shortest(), next(hole.fillings(40)))

    def test_ordinary(self):
        self.assertEqual(Hole((A, 0, None)).shortest(), "")
        self.assertEqual(Hole((("0", "1"), 2, 3), (ALL_SIGNS, 0, 1), (("f", "g"), 1, None)).shortest(), "00f")
        self.assertEqual(Hole(*[(("g",), 3, 3)] * 4).shortest(), "g" * 12)


class Listing(unittest.TestCase):
    def test_in_order_each_once(self):
        for runs in SHARED + EDGES:
            for many in range(8):
                self.assertEqual(list(Hole(*runs).fillings(many)), told_fillings(runs, "ab", many))

    def test_chosen(self):
        for hole in chosen_holes(6, "0:", 40):
            self.assertEqual(list(hole.fillings(8)), told_fillings(hole.runs, "0:", 8))
        for hole in chosen_holes(7, "#1ag", 15):
            self.assertEqual(list(hole.fillings(5)), told_fillings(hole.runs, "#1ag", 5))

    def test_none_short_enough(self):
        hole = Hole(*[(("a",), 3, 3)] * 4)
        self.assertEqual([list(hole.fillings(many)) for many in (0, 11, 12, 13, 40)], [[], [], ["a" * 12], ["a" * 12], ["a" * 12]])

    def test_no_sign(self):
        self.assertEqual(list(Hole((A, 0, None)).fillings(0)), [""])
        self.assertEqual(list(Hole((A, 1, None)).fillings(0)), [])

    def test_up_to_forty(self):
        found = list(Hole((A, 0, None), (B, 0, None)).fillings(40))
        told = ["a" * (length - behind) + "b" * behind for length in range(41) for behind in range(length + 1)]
        self.assertEqual(found, told)

    def test_lazy(self):
        many = Hole(*[(ALL_SIGNS, 3, None)] * 4).fillings(40)
        self.assertEqual(list(itertools.islice(many, 3)), ["#" * 12, "#" * 11 + "$", "#" * 11 + "0"])
        many = Hole((ALL_SIGNS, 0, None), (ALL_SIGNS, 0, None)).fillings(40)
        self.assertEqual(list(itertools.islice(many, 18)), [""] + list(SIGNS) + ["##", "#$"])

    def test_side_by_side(self):
        hole = Hole(*SHARED[1])
        told = told_fillings(SHARED[1], "ab", 6)
        one, other = hole.fillings(6), hole.fillings(6)
        next(other)
        self.assertEqual([(text, next(other, None)) for text in one], list(zip(told, told[1:] + [None])))


class Counts(unittest.TestCase):
    def test_as_listed(self):
        for hole in [Hole(*runs) for runs in SHARED + EDGES] + chosen_holes(8, "ab", 40):
            lengths = [len(text) for text in hole.fillings(9)]
            self.assertEqual([hole.count(many) for many in range(10)], [lengths.count(many) for many in range(10)])

    def test_every_number(self):
        twice, once = Hole((A, 0, None), (A, 0, None)), Hole((A, 0, None), (B, 0, None))
        four = Hole(*[((sign,), 0, None) for sign in "abcd"])
        ends = Hole((AB, 0, None), (A, 1, 1))
        for many in range(201):
            self.assertEqual(twice.count(many), 1)
            self.assertEqual(once.count(many), many + 1)
            self.assertEqual(four.count(many), math.comb(many + 3, 3))
            self.assertEqual(ends.count(many), 2 ** (many - 1) if many else 0)

    def test_great_counts(self):
        hole = Hole((ALL_SIGNS, 0, None), (ALL_SIGNS, 0, 3))
        for many in (0, 1, 12, 13, 40, 41, 199, 200):
            self.assertEqual(hole.count(many), 15**many)

    def test_with_a_high(self):
        hole = Hole((AB, 1, 2), (("c",), 0, 3))
        self.assertEqual([hole.count(many) for many in range(7)], [0, 2, 6, 6, 6, 4, 0])
        self.assertEqual([hole.count(200), Hole((ALL_SIGNS, 3, 3)).count(3)], [0, 3375])

    def test_shared_signs(self):
        hole = Hole((AB, 0, 3), (AB, 0, 3))
        self.assertEqual([hole.count(many) for many in range(8)], [1, 2, 4, 8, 16, 32, 64, 0])
