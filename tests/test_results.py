"""What cleaners write, by the views at all places (0.11, 0.12, stage 4)."""

import random
import unittest

from cleandress.base.signs import SIGNS
from cleandress.clean.cleaners import Cleaner
from tests.chosen import FEW, chosen_cleaner
from tests.examples import KEEP, TRIM, UNSTAMP
from tests.oracle import all_texts


def told_view(cleaner, right):
    """The view at a place, by what stands to the right of it."""
    view = 0
    for sign in reversed(right):
        moves, other = cleaner.look[view]
        view = moves[sign] if sign in moves else other
    return view


def told_walk(cleaner, text):
    """The walk and the result, place by place."""
    state = cleaner.firsts[told_view(cleaner, text)]
    if state is None:
        return (), None
    written = ""
    walk = [(state, written)]
    for at, sign in enumerate(text):
        moves, other, _ = cleaner.writer[state]
        view = told_view(cleaner, text[at + 1:])
        if (sign, view) in moves:
            piece, state = moves[sign, view]
        elif (sign, None) in moves:
            piece, state = moves[sign, None]
        else:
            piece, state = sign, other
        written += piece
        walk.append((state, written))
    return tuple(walk), written + cleaner.writer[state][2]


def chosen_cleaners(seed, many):
    chance = random.Random(seed)
    return [chosen_cleaner(chance, views=3, states=4) for _ in range(many)]


class Results(unittest.TestCase):
    def test_place_by_place(self):
        for cleaner in chosen_cleaners(31, 60):
            for text in all_texts(FEW, 4) + ["abc_#", "gab__"]:
                walk, result = told_walk(cleaner, text)
                self.assertEqual(cleaner.views(text), tuple(told_view(cleaner, text[at:]) for at in range(len(text) + 1)))
                self.assertEqual((cleaner.walk(text), cleaner(text), text in cleaner), (walk, result, result is not None))

    def test_a_key_with_the_view_is_used_first(self):
        look = (({"a": 1}, 0), ({"a": 1}, 2), ({"a": 1}, 0))
        writer = (({("b", 1): ("#", 0), ("b", None): ("$", 1), ("c", 2): ("", 0)}, 1, ""), ({("b", 0): ("01", 0)}, 0, "_"))
        cleaner = Cleaner(writer, look=look)
        # With "a" behind it, the first "b" has the view 1, the second one has the view 0.
        self.assertEqual((cleaner.views("bab"), cleaner.walk("bab")), ((2, 1, 0, 0), ((0, ""), (0, "#"), (1, "#a"), (0, "#a01"))))
        self.assertEqual((cleaner("bab"), cleaner("bb"), cleaner("ba"), cleaner("cba")), ("#a01", "$01", "#a_", "#a_"))

    def test_firsts_go_by_the_view_ahead(self):
        look = (({"a": 1, "b": 2}, 0), ({"a": 1, "b": 2}, 0), ({"a": 1, "b": 2}, 0))
        writer = (({}, 0, "0"), ({}, 1, "1"))
        cleaner = Cleaner(writer, look=look, firsts=(0, None, 1))
        self.assertEqual([cleaner(text) for text in ("", "c", "ab", "ba", "b")], ["0", "c0", None, "ba1", "b1"])
        self.assertEqual([cleaner.walk(text) for text in ("ab", "b")], [(), ((1, ""), (1, "b"))])
        self.assertEqual([text in cleaner for text in ("", "a", "b", "ac", "ca")], [True, False, True, False, True])

    def test_what_is_always_refused(self):
        cleaner = Cleaner((({}, 0, ""),), firsts=(None,))
        for text in all_texts(FEW, 2):
            self.assertEqual((cleaner(text), cleaner.walk(text), text in cleaner), (None, (), False))
        self.assertEqual(cleaner.views("ab"), (0, 0, 0))

    def test_all_signs(self):
        cleaner = Cleaner((({(sign, None): (sign + sign, 0) for sign in SIGNS}, 0, ""),))
        self.assertEqual(cleaner(SIGNS), "".join(sign + sign for sign in SIGNS))
        self.assertEqual(KEEP(SIGNS), SIGNS)

    def test_last(self):
        cleaner = Cleaner((({("a", None): ("", 1)}, 0, "bb"), ({}, 0, "")))
        self.assertEqual([cleaner(text) for text in ("", "a", "ab", "aa")], ["bb", "", "bbb", "abb"])
        self.assertEqual(cleaner.walk("aa"), ((0, ""), (1, ""), (0, "a")))

    def test_long_texts(self):
        self.assertEqual(TRIM("a" + "_" * 1999), "a")
        self.assertEqual(TRIM("_" * 1999 + "a"), "_" * 1999 + "a")
        self.assertEqual(UNSTAMP("$" + "ab" * 999 + ":"), "$")
        twice = Cleaner((({("a", None): ("aa", 0)}, 0, ""),))
        self.assertEqual((twice("a" * 2000), twice.walk("a" * 2000)[-1]), ("a" * 4000, (0, "a" * 4000)))


class Views(unittest.TestCase):
    def test_views_that_come(self):
        for cleaner in chosen_cleaners(32, 60):
            seen = set(view for text in all_texts(FEW + ("c",), 3) for view in cleaner.views(text))
            self.assertEqual(cleaner.views_that_come(), tuple(sorted(seen)))

    def test_views_that_never_come(self):
        look = (({"a": 2}, 0), ({}, 0), ({}, 0))
        self.assertEqual(Cleaner((({}, 0, ""),), look=look).views_that_come(), (0, 2))
        self.assertEqual(Cleaner((({}, 0, ""),), look=(({}, 0), ({}, 0), ({}, 1))).views_that_come(), (0,))
        every = ({sign: 1 for sign in SIGNS}, 2)
        self.assertEqual(Cleaner((({}, 0, ""),), look=(every, ({}, 1), ({}, 0))).views_that_come(), (0, 1))
        self.assertEqual((KEEP.views_that_come(), TRIM.views_that_come()), ((0,), (0, 1)))


class WhatStandsToTheRight(unittest.TestCase):
    def test_the_view_alone_decides(self):
        # What is written up to a place is the same for all that can stand to the right of it with one view.
        for cleaner in chosen_cleaners(33, 40):
            for left in ("", "a", "b_", "ab"):
                for rights in views_of(cleaner).values():
                    walks = [cleaner.walk(left + right)[:len(left) + 1] for right in rights]
                    self.assertEqual(len(set(walks)), 1)
                    self.assertEqual(len(set(cleaner.views(left + right)[:len(left) + 1] for right in rights)), 1)

    def test_what_is_written_behind_a_place(self):
        # From one state of the writer on, one text to the right is written in one way, whatever stood to the left.
        for cleaner in chosen_cleaners(34, 30):
            for right in ("", "a", "_b", "ba_"):
                behind = {}
                for left in all_texts(FEW, 3):
                    walk = cleaner.walk(left + right)
                    if walk:
                        state, written = walk[len(left)]
                        behind.setdefault(state, set()).add(cleaner(left + right)[len(written):])
                self.assertTrue(all(len(rests) == 1 for rests in behind.values()))


def views_of(cleaner):
    """Short texts by the views to the left of them."""
    views = {}
    for text in all_texts(FEW, 3):
        views.setdefault(told_view(cleaner, text), []).append(text)
    return views
