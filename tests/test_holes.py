"""Holes as values, and their errors (0.2, 0.4, 0.8, stage 2)."""

import unittest

from cleandress.dress import holes as module
from cleandress.dress.holes import Hole, are_alike, first_beyond, is_within
from cleandress.errors import DressError, InvalidHole, InvalidNumber, InvalidText
from tests.values import ALL_SIGNS, every_value, no_numbers, no_sign_tuples

STAR = (("a",), 0, None)
CODE = ((("0", "1"), 1, 2), STAR)


def right_bounds():
    return [(low, high) for low in range(4) for high in (None, 1, 2, 3) if high is None or high >= low]


class Interface(unittest.TestCase):
    def test_defined_there(self):
        for value in (Hole, first_beyond, is_within, are_alike):
            self.assertEqual(value.__module__, module.__name__)
        for name in ("of", "runs", "shortest", "fillings", "count", "barred"):
            self.assertIn(name, Hole.__dict__)
        for name in ("__init__", "__contains__", "__eq__", "__len__", "__iter__", "__str__"):
            self.assertIn(name, Hole.__dict__)


class Making(unittest.TestCase):
    def test_all_bounds(self):
        for low in range(-1, 6):
            for high in [None] + list(range(-1, 6)):
                run = (("a", "b"), low, high)
                if (low, high) in right_bounds():
                    self.assertEqual(Hole(run).runs, (run,))
                else:
                    with self.assertRaises(InvalidHole):
                        Hole(run)

    def test_how_many_runs(self):
        for many in range(1, 5):
            self.assertEqual(Hole(*[STAR] * many).runs, (STAR,) * many)
            self.assertEqual(Hole.of((STAR,) * many).runs, (STAR,) * many)
        for many in (0, 5, 6, 40):
            with self.assertRaises(InvalidHole):
                Hole(*[STAR] * many)
            with self.assertRaises(InvalidHole):
                Hole.of((STAR,) * many)

    def test_signs_of_a_run(self):
        for signs in (("a",), ("#", "g"), ALL_SIGNS):
            self.assertEqual(Hole((signs, 0, 1)).runs, ((signs, 0, 1),))
        for signs in no_sign_tuples() + [()]:
            with self.assertRaises(InvalidHole):
                Hole((signs, 0, 1))

    def test_wrong_numbers_of_a_run(self):
        for value in no_numbers(3):
            with self.assertRaises(InvalidHole):
                Hole((("a",), value, None))
            if value is not None:
                with self.assertRaises(InvalidHole):
                    Hole((("a",), 0, value))

    def test_wrong_runs(self):
        wrong = [value for value in every_value() if value != STAR]
        wrong += [list(STAR), STAR[:2], STAR + (0,), (STAR,), (["a"], 0, None), ("a", 0, None), (("a",), None, 0)]
        for value in wrong:
            for runs in ((value,), (STAR, value), (value, STAR), (STAR, STAR, STAR, value)):
                with self.assertRaises(InvalidHole):
                    Hole(*runs)
                with self.assertRaises(InvalidHole):
                    Hole.of(runs)

    def test_several_wrong_at_once(self):
        for runs in ((1, None, "a", [], {}), ((("b", "a"), True, 9), 3), (((), -1, 0),), ([], [], [], [], [])):
            with self.assertRaises(InvalidHole):
                Hole(*runs)

    def test_of_takes_a_tuple(self):
        self.assertEqual(Hole.of(CODE), Hole(*CODE))
        self.assertIsInstance(Hole.of(CODE), Hole)
        for value in every_value() + [list(CODE), Hole(*CODE), {STAR: STAR}, STAR]:
            with self.assertRaises(InvalidHole):
                Hole.of(value)


class Values(unittest.TestCase):
    def test_runs(self):
        self.assertEqual(Hole(*CODE).runs, CODE)
        self.assertIsInstance(Hole(STAR).runs, tuple)

    def test_never_changes(self):
        hole = Hole(*CODE)
        with self.assertRaises(AttributeError):
            hole.runs = (STAR,)
        self.assertEqual(hole.runs, CODE)

    def test_len_str_iteration(self):
        for many in range(1, 5):
            runs = (CODE + CODE)[:many]
            hole = Hole(*runs)
            self.assertEqual(len(hole), many)
            self.assertEqual(str(hole), "hole of " + str(many) + " runs")
            self.assertEqual(tuple(hole), runs)
            self.assertEqual([run for run in hole], list(hole))

    def test_two_iterations_side_by_side(self):
        hole = Hole(*CODE)
        self.assertEqual(list(zip(hole, hole)), [(run, run) for run in CODE])

    def test_equality(self):
        self.assertTrue(Hole(*CODE) == Hole(*CODE))
        self.assertFalse(Hole(*CODE) != Hole(*CODE))
        others = [Hole(STAR), Hole(CODE[0]), Hole(CODE[1], CODE[0]), Hole(*CODE, STAR), Hole((("0", "1"), 1, 3), STAR)]
        others += [Hole((("0",), 1, 2), STAR), Hole((("0", "1"), 0, 2), STAR), Hole((("0", "1"), 1, None), STAR)]
        for other in others + every_value() + [CODE, list(CODE), str(Hole(*CODE))]:
            self.assertFalse(Hole(*CODE) == other)
            self.assertTrue(Hole(*CODE) != other)

    def test_like_fillings_do_not_make_equal(self):
        self.assertFalse(Hole(STAR) == Hole(STAR, STAR))
        self.assertTrue(are_alike(Hole(STAR), Hole(STAR, STAR)))


class Errors(unittest.TestCase):
    def test_fillings(self):
        for many in no_numbers(40):
            texts = Hole(*CODE).fillings(many)
            with self.assertRaises(InvalidNumber) as held:
                next(texts)
            self.assertIs(held.exception.value, many)

    def test_count(self):
        for many in no_numbers(200):
            with self.assertRaises(InvalidNumber) as held:
                Hole(*CODE).count(many)
            self.assertIs(held.exception.value, many)

    def test_bounds(self):
        hole = Hole(STAR)
        self.assertEqual(list(hole.fillings(40))[-1], "a" * 40)
        self.assertEqual([hole.count(0), hole.count(200)], [1, 1])
        for many in (-1, 41, 201, True, False):
            with self.assertRaises(InvalidNumber):
                list(hole.fillings(many))
        for many in (-1, 201, True, False):
            with self.assertRaises(InvalidNumber):
                hole.count(many)

    def test_no_dress_errors_for_numbers(self):
        with self.assertRaises(IndexError) as held:
            Hole(STAR).count(-1)
        self.assertNotIsInstance(held.exception, DressError)

    def test_calls_change_nothing(self):
        hole = Hole(*CODE)
        list(hole.fillings(3))
        hole.barred(("0",))
        for many in (-1, 201, None):
            with self.assertRaises(InvalidNumber):
                hole.count(many)
        with self.assertRaises(InvalidText):
            hole.barred(("b", "a"))
        with self.assertRaises(InvalidHole):
            first_beyond(hole, CODE)
        self.assertEqual((hole.runs, hole), (CODE, Hole(*CODE)))
        self.assertEqual([hole.count(2), list(hole.fillings(1)), hole.shortest()], [6, ["0", "1"], "0"])

    def test_arguments_stay(self):
        runs = [[["a"], 0, None]]
        with self.assertRaises(InvalidHole):
            Hole.of(runs)
        with self.assertRaises(InvalidHole):
            Hole(*runs)
        self.assertEqual(runs, [[["a"], 0, None]])
