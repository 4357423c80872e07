"""Limits: just 4000 standings, more of them, and cleaners of any size (0.13, 0.21, stages 5 to 8)."""

import time
import unittest

from cleandress.base.signs import SIGNS
from cleandress.clean.cleaners import MadeCleaner, plain_cleaner
from cleandress.dress.dresses import Dress
from cleandress.dress.holes import Hole
from cleandress.errors import InvalidRoad, InvalidText, TooMany
from cleandress.judge.edits import edit_gain, edits_paper, edits_pass, greatest_typed, is_edits_paper
from cleandress.judge.papers import rows_of
from cleandress.judge.search import search_in
from cleandress.judge.silent import double_gain, is_silent, is_silent_paper, silent_paper
from cleandress.judge.still import is_still, is_still_paper, settles, still_paper
from cleandress.walk.courses import double_course, edit_course, how_many_starts, road_course, starts_of
from cleandress.walk.graphs import RoadRules, graph_of, road_gain
from cleandress.walk.roads import along
from cleandress.walk.standings import first_standings, is_standing, standings, steps_at, useful_standings
from tests.examples import KEEP, PAD, PLAIN
from tests.large import (DOUBLE_4000, DOUBLE_4001, EDITS_4000, EDITS_4001, STILL_4000, STILL_4001, STIRRED_4000,
                         STIRRED_4001)

# Such calls must answer within seconds; a slow machine may take a bit longer.
SECONDS = 15


def table_of(course, gain):
    """The rows of all standings of a course, however many come."""
    graph = graph_of(RoadRules(course, gain), None)
    return rows_of(graph, search_in(graph))


class Standings(unittest.TestCase):
    def quick(self, function, *arguments):
        begin = time.perf_counter()
        result = function(*arguments)
        self.assertLess(time.perf_counter() - begin, SECONDS)
        return result

    def too_many(self, function, *arguments):
        begin = time.perf_counter()
        with self.assertRaises(TooMany) as held:
            function(*arguments)
        self.assertEqual(held.exception.limit, 4000)
        self.assertLess(time.perf_counter() - begin, SECONDS)

    def test_just_so_many(self):
        for road in (STILL_4000, STIRRED_4000):
            made = self.quick(standings, road)
            self.assertEqual((len(made), made), (4000, tuple(sorted(made, key=repr))))
            self.assertGreater(len(self.quick(useful_standings, road)), 1000)
        self.assertIs(self.quick(is_still, STILL_4000), True)
        paper = self.quick(still_paper, STILL_4000)
        self.assertEqual((paper[0], len(paper[1])), ("still", 4000))
        self.assertIs(self.quick(is_still_paper, STILL_4000, paper), True)
        at = len(paper[1]) // 2
        self.assertIs(self.quick(is_still_paper, STILL_4000, ("still", paper[1][:at] + paper[1][at + 1:])), False)
        self.assertIs(self.quick(is_still, STIRRED_4000), False)
        paper = self.quick(still_paper, STIRRED_4000)
        self.assertEqual((paper[0], self.quick(is_still_paper, STIRRED_4000, paper)), ("stirred", True))

    def test_one_more(self):
        for road in (STILL_4001, STIRRED_4001):
            self.assertEqual(len(graph_of(RoadRules(road_course(road), road_gain), None).found), 4001)
            for function in (standings, useful_standings, is_still, still_paper):
                self.too_many(function, road)

    def test_judges_have_no_limit(self):
        rows = table_of(road_course(STILL_4001), road_gain)
        self.assertEqual(len(rows), 4001)
        self.assertIs(self.quick(is_still_paper, STILL_4001, ("still", rows)), True)
        self.assertIs(self.quick(is_still_paper, STILL_4001, ("still", rows[1:])), False)
        dressing = STIRRED_4001[1].dressed("", ())
        self.assertIs(is_still_paper(STIRRED_4001, ("stirred", "", (dressing,))), True)
        self.assertIs(is_still_paper(STILL_4001, ("stirred", "", (STILL_4001[1].dressed("", ()),))), False)
        self.assertIs(is_standing(STILL_4001, rows[0][0]), True)
        self.assertGreater(len(steps_at(STILL_4001, first_standings(STILL_4001)[0])), 10)

    def test_settles(self):
        dress, cleaner = STILL_4000[1:]
        self.too_many(settles, dress, cleaner)
        self.too_many(is_still, (plain_cleaner(), dress, cleaner, dress, cleaner))

    def test_double_standings(self):
        self.assertIs(self.quick(is_silent, DOUBLE_4000), True)
        paper = self.quick(silent_paper, DOUBLE_4000)
        self.assertEqual((paper[0], len(paper[1])), ("silent", 4000))
        self.assertIs(self.quick(is_silent_paper, DOUBLE_4000, paper), True)
        for function in (is_silent, silent_paper):
            self.too_many(function, DOUBLE_4001)
        rows = table_of(double_course(DOUBLE_4001), double_gain)
        self.assertEqual((len(rows), self.quick(is_silent_paper, DOUBLE_4001, ("silent", rows))), (4001, True))
        # The road's own standings are fewer.
        self.assertIs(is_still(DOUBLE_4001), True)

    def test_edit_standings(self):
        typed = ("a",)
        paper = self.quick(edits_paper, EDITS_4000, typed)
        self.assertIs(self.quick(edits_pass, EDITS_4000, typed), paper[0] == "pass")
        self.assertEqual(len(graph_of(RoadRules(edit_course(EDITS_4000, typed), edit_gain), 4000).found), 4000)
        self.assertIs(self.quick(is_edits_paper, EDITS_4000, typed, paper), True)
        for function in (edits_pass, edits_paper, greatest_typed):
            self.too_many(function, EDITS_4001, typed)
        rows = table_of(edit_course(EDITS_4001, typed), edit_gain)
        self.assertEqual(len(rows), 4001)
        self.assertIs(self.quick(is_edits_paper, EDITS_4001, typed, ("pass", rows)), edits_pass_by(EDITS_4001, typed))

    def test_greatest_typed(self):
        begin = time.perf_counter()
        self.assertIn(greatest_typed(EDITS_4000, ("a",)), ((), ((),), (("a",),)))
        with self.assertRaises(TooMany) as held:
            greatest_typed(EDITS_4001, tuple("#$0123:"))
        self.assertEqual(held.exception.limit, 6)
        self.too_many(greatest_typed, EDITS_4001, tuple("#$0123"))
        self.assertLess(time.perf_counter() - begin, 2 * SECONDS)

    def test_other_errors_come_first(self):
        for function in (is_silent, silent_paper):
            with self.assertRaises(InvalidRoad):
                function((KEEP, *DOUBLE_4001[1:], *DOUBLE_4001[1:]))
        for function in (edits_pass, edits_paper, greatest_typed):
            with self.assertRaises(InvalidText):
                function(EDITS_4001, ("b", "a"))


def edits_pass_by(road, typed):
    return search_in(graph_of(RoadRules(edit_course(road, typed), edit_gain), None)).path is None


def counting(states):
    """A cleaner of many states that writes what it reads, and two signs more where a row of signs is full."""
    return MadeCleaner(tuple([({}, (at + 1) % states, "") for at in range(states)]), (({}, 0),), (0,))


def far_look(views):
    """A cleaner with many views that come one behind the other; it refuses what is shorter."""
    look = tuple([({}, min(at + 1, views - 1)) for at in range(views)])
    return MadeCleaner((({}, 0, ""),), look, (None,) * (views - 1) + (0,))


class AnySize(unittest.TestCase):
    def test_numbers_of_first_standings(self):
        far = far_look(5)
        for road in ((far, PAD, far), (KEEP, PLAIN, far), (far, PAD, far, PAD, KEEP), (KEEP, PAD, far, PAD, far)):
            course = road_course(road)
            self.assertEqual(how_many_starts(course), len(starts_of(course)))
            if len(road) == 3:
                self.assertEqual(how_many_starts(double_course(road)), len(starts_of(double_course(road))))

    def test_many_states(self):
        road = (counting(300), PLAIN, counting(40))
        self.assertEqual((road[0]("ab_"), len(road[0]), str(road[2])), ("ab_", 300, "cleaner of 40 states, 1 views"))
        self.assertIs(is_still((KEEP, PLAIN, counting(40))), True)
        self.assertIs(is_still_paper((KEEP, PLAIN, counting(40)), still_paper((KEEP, PLAIN, counting(40)))), True)
        with self.assertRaises(TooMany):
            is_still(road)

    def test_many_views(self):
        far = far_look(30)
        self.assertEqual((far("a" * 29), far("a" * 28), far.views_that_come()), ("a" * 29, None, tuple(range(30))))
        paper = still_paper((KEEP, PLAIN, far))
        self.assertEqual((paper[0], is_still_paper((KEEP, PLAIN, far), paper)), ("stirred", True))
        self.assertEqual(len(first_standings((far, PLAIN, far))), 30)
        near = far_look(7)
        self.assertIs(is_still((near, PLAIN, near)), True)
        with self.assertRaises(TooMany):
            is_still((far, PLAIN, far))
        # Keys and standings are in the order of repr, also where views have two digits.
        odd = MadeCleaner((({("a", 2): ("", 0), ("a", 10): ("", 0), ("a", None): ("", 0)}, 0, ""),), far.look, far.firsts)
        self.assertEqual(list(odd.writer[0][0]), [("a", 10), ("a", 2), ("a", None)])

    def test_long_written_texts(self):
        long = MadeCleaner((({("a", None): ("ab" * 40, 0)}, 0, "b" * 30),), (({}, 0),), (0,))
        self.assertEqual(long("a_"), "ab" * 40 + "_" + "b" * 30)
        road = (long, PLAIN, KEEP)
        self.assertIs(is_still(road), True)
        self.assertIs(is_still_paper(road, still_paper(road)), True)
        paper = still_paper((KEEP, PLAIN, long))
        self.assertEqual((paper[0], paper[1], is_still_paper((KEEP, PLAIN, long), paper)), ("stirred", "", True))

    def test_papers_with_long_texts(self):
        # No walk with fewer signs stirs than one with more than can be passed alone.
        last = MadeCleaner(tuple([({}, min(at + 1, 2100), "") for at in range(2100)]) + (({}, 2100, "a"),), (({}, 0),), (0,))
        graph = graph_of(RoadRules(road_course((KEEP, PLAIN, last)), road_gain), None)
        path = search_in(graph).path
        text = "".join([taken for _, part, taken, _ in path if part == 0])
        self.assertEqual(len(text), 2100)
        paper = ("stirred", text, (((),) + tuple([(("own", sign),) for sign in text]) + ((),),))
        self.assertIs(is_still_paper((KEEP, PLAIN, last), paper), True)

    def test_looks_with_more_first_standings_than_can_be_made(self):
        wide = MadeCleaner((({}, 0, ""),), tuple([({}, at) for at in range(2000)]), (0,) * 2000)
        road = (wide, PAD, wide, PAD, wide)
        begin = time.perf_counter()
        for function in (standings, useful_standings, is_still, still_paper):
            with self.assertRaises(TooMany):
                function(road)
        self.assertIs(is_still_paper(road, ("still", ())), False)
        self.assertIs(is_silent_paper(road[:3], ("silent", ())), False)
        self.assertLess(time.perf_counter() - begin, SECONDS)

    def test_roads_of_wide_cleaners(self):
        wide = counting(7)
        hole = Hole((tuple(SIGNS), 0, None))
        dress = Dress((({}, 0, (("hole", "x"),)),), {"x": hole})
        self.assertEqual(along((wide, PLAIN, wide), "ab", (PLAIN.dressed("ab", ()),)), ("ab",) * 4)
        self.assertIs(is_silent((wide, dress, wide)), False)
        self.assertIs(is_silent((wide, PLAIN, wide)), True)
        self.assertIs(edits_pass((KEEP, PLAIN, wide), ("a",)), True)
