"""Holes within one another, and barred holes (0.8, stage 2)."""

import unittest

from cleandress.dress.holes import Hole, are_alike, first_beyond, is_within
from cleandress.errors import InvalidHole, InvalidOperation, InvalidText
from tests.oracle import chosen_holes, pattern_of
from tests.values import ALL_SIGNS, every_value, no_holes, no_sign_tuples

A, B, AB = ("a",), ("b",), ("a", "b")
STAR = Hole((A, 0, None))
PAIRS = (first_beyond, is_within, are_alike)


class Within(unittest.TestCase):
    def test_ordinary(self):
        cases = [
            (STAR, STAR, None),
            (Hole((A, 1, None)), STAR, None),
            (STAR, Hole((A, 1, None)), ""),
            (STAR, Hole((A, 0, 3)), "aaaa"),
            (STAR, Hole((A, 0, 3), (A, 0, 3), (A, 0, 3), (A, 0, 3)), "a" * 13),
            (Hole((AB, 0, None)), STAR, "b"),
            (Hole((AB, 2, 2)), Hole((A, 1, 1), (AB, 1, 1)), "ba"),
            (Hole((AB, 2, 2)), Hole((AB, 1, 1), (A, 1, 1)), "ab"),
            (Hole((ALL_SIGNS, 0, None)), Hole((ALL_SIGNS[:-1], 0, None)), "g"),
            (Hole((ALL_SIGNS, 3, 3)), Hole((ALL_SIGNS, 0, None)), None),
        ]
        for hole, other, told in cases:
            self.assertEqual(first_beyond(hole, other), told)
            self.assertIs(is_within(hole, other), told is None)

    def test_made_in_several_ways(self):
        split = Hole((A, 0, 1), (A, 0, None), (A, 1, 2))
        self.assertIs(are_alike(split, Hole((A, 1, None))), True)
        self.assertIs(are_alike(Hole((AB, 1, 2), (AB, 2, 3)), Hole((AB, 3, 3), (AB, 0, 2))), True)
        self.assertIs(are_alike(Hole((A, 0, None), (B, 0, None)), Hole((AB, 0, None))), False)
        self.assertEqual(first_beyond(Hole((AB, 0, None)), Hole((A, 0, None), (B, 0, None))), "ba")

    def test_one_way_alone_is_not_alike(self):
        self.assertIs(are_alike(STAR, Hole((AB, 0, None))), False)
        self.assertIs(are_alike(Hole((AB, 0, None)), STAR), False)
        self.assertIs(is_within(STAR, Hole((AB, 0, None))), True)

    def test_chosen(self):
        holes = chosen_holes(9, "ab", 160)
        for hole, other in zip(holes[::2], holes[1::2]):
            texts, pattern = list(hole.fillings(9)), pattern_of(other.runs)
            told = next((text for text in texts if not pattern.fullmatch(text)), None)
            found = first_beyond(hole, other)
            if told is not None or found is None:
                self.assertEqual(found, told, (hole.runs, other.runs))
            else:
                self.assertGreater(len(found), 9)
                self.assertTrue(pattern_of(hole.runs).fullmatch(found) and not pattern.fullmatch(found))
            self.assertIs(is_within(hole, other), found is None)
            self.assertIs(are_alike(hole, other), found is None and first_beyond(other, hole) is None)

    def test_chosen_ones_are_within_all(self):
        for hole in chosen_holes(10, "#1:ag", 60):
            self.assertIs(is_within(hole, Hole((ALL_SIGNS, 0, None))), True)
            self.assertIs(are_alike(hole, Hole(*hole.runs)), True)

    def test_no_holes(self):
        for call in PAIRS:
            for value in no_holes() + [STAR.runs]:
                for pair in ((value, STAR), (STAR, value), (value, value), (value, None)):
                    with self.assertRaises(InvalidHole):
                        call(*pair)

    def test_holes_stay(self):
        hole, other = Hole((AB, 1, 2), (A, 0, None)), Hole((A, 0, 3))
        for call in PAIRS:
            call(hole, other)
        self.assertEqual((hole.runs, other.runs), (((AB, 1, 2), (A, 0, None)), ((A, 0, 3),)))


class Barred(unittest.TestCase):
    def test_ordinary(self):
        hole = Hole((("0", "1", "a"), 1, 2), (A, 0, None), (AB, 0, 3))
        self.assertEqual(hole.barred(A), Hole((("0", "1"), 1, 2), (B, 0, 3)))
        self.assertEqual(hole.barred(AB), Hole((("0", "1"), 1, 2)))
        self.assertEqual(hole.barred(("0",)), Hole((("1", "a"), 1, 2), (A, 0, None), (AB, 0, 3)))

    def test_no_sign_of_it(self):
        hole = Hole((AB, 0, None), (A, 2, 3))
        for signs in ((), ("#",), ("#", "c", "g")):
            self.assertEqual(hole.barred(signs), hole)
            self.assertIsInstance(hole.barred(signs), Hole)

    def test_fillings_do_without(self):
        hole = Hole((AB, 1, None), (("b", "c"), 0, 2), (ALL_SIGNS, 0, 1))
        told = [text for text in hole.fillings(4) if "b" not in text]
        self.assertEqual(list(hole.barred(B).fillings(4)), told)

    def test_all_but_one(self):
        for sign in ALL_SIGNS:
            others = tuple([other for other in ALL_SIGNS if other != sign])
            self.assertEqual(Hole((ALL_SIGNS, 3, 3)).barred(others), Hole(((sign,), 3, 3)))

    def test_the_hole_stays(self):
        hole = Hole((AB, 1, 2), (A, 0, None))
        hole.barred(A)
        with self.assertRaises(InvalidOperation):
            hole.barred(AB)
        self.assertEqual(hole.runs, ((AB, 1, 2), (A, 0, None)))
        self.assertEqual(list(hole.fillings(1)), ["a", "b"])

    def test_a_run_that_needs_signs(self):
        for low in (1, 2, 3):
            for runs in (((A, low, None),), ((B, 0, None), (A, low, 3)), ((A, low, low), (B, 0, 1))):
                with self.assertRaises(InvalidOperation):
                    Hole(*runs).barred(A)

    def test_no_run_left(self):
        for runs in (((A, 0, None),), ((A, 0, 1), (A, 0, 3)), ((AB, 0, None), (B, 0, 1), (A, 0, 2), (A, 0, 3))):
            with self.assertRaises(InvalidOperation):
                Hole(*runs).barred(AB)
            with self.assertRaises(InvalidOperation):
                Hole(*runs).barred(ALL_SIGNS)

    def test_wrong_signs(self):
        for signs in no_sign_tuples():
            with self.assertRaises(InvalidText):
                STAR.barred(signs)

    def test_wrong_signs_first(self):
        for signs in ("a", ["a"], ("a", "a"), ("a", "#"), ("a", "h"), ("a", None), {"a": 0}):
            with self.assertRaises(InvalidText):
                Hole((A, 1, None)).barred(signs)

    def test_every_value(self):
        for value in every_value():
            if value == () or value == AB or value == A:
                continue
            with self.assertRaises(InvalidText):
                Hole((AB, 0, None)).barred(value)
