"""Texts read back, and cleaners made for dresses (0.4, 0.9 to 0.13, 9.1, stage 9)."""

import random
import time
import unittest

from cleandress.base.signs import SIGNS
from cleandress.clean import making as module
from cleandress.clean.backs import back_ahead, backs_of, empty_back
from cleandress.clean.cleaners import Cleaner, MadeCleaner
from cleandress.clean.making import MAX_SETS, cleaner_for, read_back
from cleandress.dress.dresses import Dress, dressed_text
from cleandress.dress.holes import Hole
from cleandress.errors import InvalidCleaner, InvalidDress, InvalidOperation, InvalidText, TooMany
from cleandress.judge.edits import edits_paper, is_edits_paper
from cleandress.judge.readable import is_readable
from cleandress.judge.silent import is_silent, is_silent_paper, silent_paper
from cleandress.judge.still import is_still, is_still_paper, settles, still_paper
from cleandress.walk.roads import along, comes_back
from cleandress.walk.standings import first_standings, is_standing, standings, steps_at
from tests.chosen import FEW
from tests.examples import KEEP, PAD, PLAIN, STAMP
from tests.large_dresses import MIXED_4001, PAIRS_4000, PAIRS_4001, SETS_200, SETS_201
from tests.oracle import all_texts
from tests.pairs import back_set, how_many_sets, short_dressed
from tests.test_readable import EDGES, FOUR, MARKED, MIXED, READABLE, chosen_dresses, no_dresses
from tests.values import no_texts

# What is put in has signs that the text has, too: only what follows tells which is which.
BEHIND = Dress((({"a": ((("hole", "x"), ("own",), ("fixed", "b")), 0), "b": ((("own",), ("fixed", "bb")), 0)}, 0, ()),), {"x": Hole((("a",), 0, 3))})
LATE = Dress((({"a": ((("fixed", "c"),), 1), "b": ((("fixed", "c"),), 2)}, 3, ()), ({}, 1, (("fixed", "_"),)),
              ({}, 2, (("fixed", "#"),)), ({}, 3, (("fixed", ":"),))))

# The text "a" is dressed as the empty text: what was read is written at the end.
QUIET = Dress((({"a": ((), 1)}, 2, (("fixed", "_"),)), ({sign: ((("own",), ("fixed", "#")), 1) for sign in SIGNS}, 1, ()), ({}, 2, (("fixed", "_"),))))


def readable_ones(seed, many):
    return [dress for dress in chosen_dresses(seed, many) if is_readable(dress)]


class Interface(unittest.TestCase):
    def test_defined_there(self):
        for value in (read_back, cleaner_for):
            self.assertEqual(value.__module__, module.__name__)
        self.assertEqual(MAX_SETS, 200)


class ReadBack(unittest.TestCase):
    def test_by_hand(self):
        self.assertEqual(read_back(STAMP, "a$ba:"), "a$")
        self.assertIs(read_back(STAMP, "$"), None)
        self.assertEqual(read_back(PLAIN, ""), "")
        self.assertEqual(read_back(EDGES, "$ba:ab#a"), "ab")
        self.assertIs(read_back(EDGES, ""), None)
        self.assertIs(read_back(EDGES, "$:"), None)
        self.assertEqual(read_back(MARKED, "##b#01aaa"), "#ba")
        self.assertEqual(read_back(FOUR, "$"), "")
        self.assertEqual([read_back(QUIET, text) for text in ("", "_", "b#", "b_", "b")], ["a", "", "ab", "b", None])
        self.assertEqual([cleaner_for(QUIET)(text) for text in ("", "_", "b#", "b_", "b")], ["a", "", "ab", "b", None])
        self.assertEqual([read_back(LATE, text) for text in ("ca_", "ca#", "ca:", "ca", "_", "")], ["aa", "ba", "ca", None, None, ""])

    def test_each_text_from_its_dressings(self):
        for dress in READABLE + [BEHIND, LATE, QUIET] + readable_ones(21, 40):
            made = short_dressed(dress, FEW, 3, 2, 20)
            for dressed, texts in made.items():
                self.assertEqual([read_back(dress, dressed)], texts)

    def test_none_of_others(self):
        marks = []
        for dress in READABLE + [BEHIND, LATE, QUIET] + readable_ones(22, 20):
            for text in all_texts(FEW, 4):
                back = read_back(dress, text)
                marks.append(back is None)
                if back is not None:
                    self.assertTrue(dress.makes(back, text))
                else:
                    self.assertFalse(any(dress.makes(other, text) for other in all_texts(FEW, 3)))
        self.assertGreater(min(marks.count(True), marks.count(False)), 500)

    def test_long_texts(self):
        begin = time.perf_counter()
        self.assertEqual(read_back(STAMP, "$ab:" * 500), "$" * 500)
        self.assertIs(read_back(STAMP, "$ab:" * 499 + "$ab"), None)
        self.assertEqual(read_back(PLAIN, "ab" * 1000), "ab" * 1000)
        for dress in (PAIRS_4000, SETS_201):
            dressed = dressed_text(dress.dressed("d1" * 100, tuple(dress[name].shortest() for name in dress.holes_of("d1" * 100))))
            self.assertEqual(read_back(dress, dressed), "d1" * 100)
        self.assertLess(time.perf_counter() - begin, 15)

    def test_errors_in_their_order(self):
        for value in no_dresses():
            with self.assertRaises(InvalidDress):
                read_back(value, "a")
            with self.assertRaises(InvalidDress):
                read_back(value, None)
        for value in no_texts():
            for dress in (STAMP, PAD, PAIRS_4001):
                with self.assertRaises(InvalidText):
                    read_back(dress, value)
        for dress in (PAIRS_4001, MIXED_4001):
            with self.assertRaises(TooMany) as held:
                read_back(dress, "a")
            self.assertEqual(held.exception.limit, 4000)
        for dress in MIXED:
            with self.assertRaises(InvalidOperation):
                read_back(dress, "a")


class MadeCleaners(unittest.TestCase):
    def test_by_hand(self):
        cleaner = cleaner_for(STAMP)
        self.assertEqual([cleaner(text) for text in ("$:b$a:", "a$", "", "$aba:", "$c:", ":")], ["$b$", None, "", "$", None, ":"])
        self.assertEqual([cleaner_for(EDGES)(text) for text in ("$ba:ab#a", "$:#", "$:", "")], ["ab", "", None, None])
        self.assertEqual([cleaner_for(LATE)(text) for text in ("ca_", "ca#", "ca:", "ca", "_", "")], ["aa", "ba", "ca", None, None, ""])
        self.assertEqual(cleaner_for(PLAIN)("ab"), "ab")

    def test_it_undoes_the_dress(self):
        for dress in READABLE + [BEHIND, LATE, QUIET, SETS_200] + readable_ones(23, 30):
            cleaner = cleaner_for(dress)
            for dressed, texts in short_dressed(dress, FEW, 3, 2, 20).items():
                self.assertEqual([cleaner(dressed)], texts)
            for text in all_texts(FEW, 4):
                self.assertEqual(cleaner(text), read_back(dress, text))
                self.assertIs(text in cleaner, read_back(dress, text) is not None)

    def test_the_road_is_still(self):
        many = 0
        for dress in READABLE + [BEHIND, LATE, QUIET] + readable_ones(24, 60):
            road = (KEEP, dress, cleaner_for(dress))
            try:
                paper = still_paper(road)
            except TooMany:
                continue
            self.assertIs(is_still(road), True)
            self.assertEqual((paper[0], is_still_paper(road, paper)), ("still", True))
            many += 1
            if len(paper[1]) < 100:
                self.assertIs(is_silent(road), True)
        self.assertGreater(many, 30)

    def test_a_cleaner_like_the_others(self):
        for dress in READABLE + [BEHIND, LATE, QUIET, SETS_200]:
            cleaner = cleaner_for(dress)
            self.assertIsInstance(cleaner, Cleaner)
            self.assertEqual(cleaner, cleaner_for(dress))
            self.assertNotEqual(cleaner, KEEP)
            self.assertEqual(cleaner, MadeCleaner(cleaner.writer, cleaner.look, cleaner.firsts))
            self.assertEqual((len(cleaner), str(cleaner)), (len(cleaner.writer), f"cleaner of {len(cleaner.writer)} states, {len(cleaner.look)} views"))
            self.assertTrue(set(cleaner.views_that_come()) <= set(range(len(cleaner.look))))
            for text in ("", "a", "$ab:", "#_"):
                views = cleaner.views(text)
                walk = cleaner.walk(text)
                self.assertEqual((len(views), views[-1]), (len(text) + 1, 0))
                self.assertEqual(len(walk), len(text) + 1 if text in cleaner else 0)
                if walk:
                    self.assertEqual(walk[-1][1] + cleaner.writer[walk[-1][0]][2], cleaner(text))
            for moves, other, last in cleaner.writer:
                self.assertEqual(list(moves), sorted(moves, key=repr))
            with self.assertRaises(InvalidText):
                cleaner("a" * 2001)
            with self.assertRaises(TypeError):
                list(cleaner)

    def test_properties_do_not_lead_into_it(self):
        cleaner = cleaner_for(STAMP)
        cleaner.writer[0][0].clear()
        cleaner.look[0][0].clear()
        self.assertEqual(cleaner, cleaner_for(STAMP))
        self.assertEqual(cleaner("$:"), "$")

    def test_equal_to_one_that_was_passed(self):
        cleaner = cleaner_for(PLAIN)
        self.assertEqual(Cleaner(cleaner.writer, look=cleaner.look, firsts=cleaner.firsts), cleaner)
        self.assertEqual(cleaner, Cleaner(cleaner.writer, look=cleaner.look, firsts=cleaner.firsts))

    def test_its_use_in_roads(self):
        cleaner = cleaner_for(STAMP)
        self.assertIs(settles(STAMP, cleaner), True)
        road = (cleaner, STAMP, cleaner)
        dressing = STAMP.dressed("$", ("ab",))
        self.assertEqual(along(road, "$:", (dressing,)), ("$:", "$", "$ab:", "$"))
        self.assertIs(comes_back(road, "$:", (dressing,)), True)
        self.assertEqual(along(road, "$", ()), ("$", None))
        self.assertIs(is_still(road), True)
        self.assertIs(is_still((cleaner, PAD, cleaner)), False)
        self.assertIs(is_still_paper((cleaner, PAD, cleaner), still_paper((cleaner, PAD, cleaner))), True)
        self.assertIs(is_silent_paper(road, silent_paper(road)), True)
        self.assertIs(is_edits_paper(road, ("a",), edits_paper(road, ("a",))), True)
        self.assertEqual(len(first_standings(road)), 2 * len(cleaner.look) if None not in cleaner.firsts else len(first_standings(road)))
        for standing in standings(road)[::50]:
            self.assertTrue(is_standing(road, standing))
            self.assertTrue(all(is_standing(road, step[2]) for step in steps_at(road, standing)))

    def test_parts_that_cannot_be(self):
        for writer, look, firsts in [((), (({}, 0),), (0,)), ((({}, 0, ""),), (), ()), ((({}, 1, ""),), (({}, 0),), (0,)),
                                     ((({}, 0, ""),), (({}, 0),), (1,)), ((({}, 0, ""),), (({}, 0),), ()), ((({}, 0, "h"),), (({}, 0),), (0,))]:
            with self.assertRaises(InvalidCleaner):
                MadeCleaner(writer, look, firsts)
        with self.assertRaises(InvalidCleaner):
            Cleaner(cleaner_for(SETS_200).writer)
        # A cleaner that refuses all texts has a state of the writer all the same.
        with self.assertRaises(InvalidCleaner):
            MadeCleaner((), (({}, 0),), (None,))
        with self.assertRaises(InvalidCleaner):
            Cleaner((), firsts=(None,))

    def test_errors_in_their_order(self):
        for value in no_dresses():
            with self.assertRaises(InvalidDress):
                cleaner_for(value)
        for dress in (PAIRS_4001, MIXED_4001):
            with self.assertRaises(TooMany) as held:
                cleaner_for(dress)
            self.assertEqual(held.exception.limit, 4000)
        for dress in MIXED:
            with self.assertRaises(InvalidOperation):
                cleaner_for(dress)


class BackSets(unittest.TestCase):
    def test_all_of_short_texts(self):
        for dress in READABLE + [BEHIND, LATE, QUIET] + readable_ones(25, 30):
            backs = backs_of(dress)
            told = {}
            for text in all_texts(FEW, 3):
                mask = empty_back(backs)
                for sign in reversed(text):
                    mask = back_ahead(backs, sign, mask)
                told.setdefault(back_set(dress, text), set()).add(mask)
            self.assertTrue(all(len(masks) == 1 for masks in told.values()))
            self.assertEqual(len(set(mask for masks in told.values() for mask in masks)), len(told))
            self.assertTrue(all(bin(min(masks)).count("1") == len(places) for places, masks in told.items()))

    def test_how_many(self):
        self.assertEqual((how_many_sets(SETS_200), how_many_sets(SETS_201)), (200, 201))
        self.assertIsInstance(cleaner_for(SETS_200), Cleaner)
        for dress in (SETS_201, PAIRS_4000):
            self.assertIs(is_readable(dress), True)
            with self.assertRaises(TooMany) as held:
                cleaner_for(dress)
            self.assertEqual(held.exception.limit, 200)
        # Texts are read back all the same.
        self.assertEqual(read_back(SETS_201, dressed_text(SETS_201.dressed("", tuple(SETS_201[name].shortest() for name in SETS_201.holes_of(""))))), "")

    def test_just_as_many_as_the_document_counts(self):
        chance = random.Random(9)
        for limit in (2, 16, 17, 18, 21):
            for dress in READABLE + [BEHIND, LATE, QUIET] + readable_ones(chance.randrange(1000), 20):
                module.MAX_SETS = limit
                try:
                    if how_many_sets(dress) > limit:
                        with self.assertRaises(TooMany):
                            cleaner_for(dress)
                    else:
                        cleaner_for(dress)
                finally:
                    module.MAX_SETS = 200

    def test_signs_that_are_not_tried(self):
        # Each sign counts, also such as no pattern has.
        self.assertEqual((how_many_sets(PLAIN), how_many_sets(STAMP)), (16, 19))
        for sign in SIGNS:
            self.assertEqual(cleaner_for(PLAIN)(sign), sign)
