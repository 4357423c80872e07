"""Still roads: whether each text comes back, and papers that show it (0.14, 0.18 to 0.20, stage 6)."""

import unittest

from cleandress.clean.cleaners import Cleaner, dropping, only_with, trimming
from cleandress.dress.dresses import Dress
from cleandress.errors import InvalidCleaner, InvalidDress, InvalidRoad
from cleandress.judge import still as module
from cleandress.judge.still import is_still, is_still_paper, settles, still_paper
from cleandress.walk.roads import along, comes_back
from cleandress.walk.standings import standings, steps_at, useful_standings
from tests.chosen import FEW, chosen_roads, seeing_roads
from tests.examples import KEEP, PAD, PLAIN, STAMP, TRIM, UNSTAMP
from tests.judges import is_least, least_stirring_steps, right_still_rows
from tests.test_roads import LONG, NEVER, no_roads
from tests.values import every_value
from tests.walks import least_stirring

STILL = [(KEEP, STAMP, UNSTAMP), (TRIM, PAD, TRIM), (KEEP, PLAIN, KEEP), (KEEP, PAD, TRIM, PAD, TRIM), (NEVER, PAD, KEEP)]
STIRRED = [(KEEP, PAD, TRIM), (KEEP, PAD, KEEP), (KEEP, STAMP, KEEP), (KEEP, PLAIN, TRIM), (KEEP, PLAIN, NEVER), LONG[:3] + (PAD, KEEP)]


class Interface(unittest.TestCase):
    def test_defined_there(self):
        for value in (is_still, still_paper, is_still_paper, settles):
            self.assertEqual(value.__module__, module.__name__)


class Still(unittest.TestCase):
    def test_examples(self):
        for road in STILL:
            self.assertIs(is_still(road), True)
        for road in STIRRED:
            self.assertIs(is_still(road), False)

    def test_a_cleaner_that_refuses(self):
        mark = Dress((({}, 0, (("fixed", "#"),)),))
        trim = trimming(("#",))
        marked = Cleaner(trim.writer, look=(({"#": 0}, 1), ({}, 1)), firsts=(0, 0))
        self.assertIs(is_still((dropping(("#",)), mark, marked)), True)
        # Each dressed text has the mark, so nothing is refused, whatever the first cleaner lets through.
        only = only_with("#")
        drop = Cleaner((({("#", None): ("", 0)}, 0, ""),), look=only.look, firsts=only.firsts)
        self.assertIs(is_still((dropping(("#",)), mark, drop)), True)
        self.assertIs(is_still((dropping(("#",)), PLAIN, drop)), False)
        # The first and the middle cleaner may refuse: then the walk ends there.
        self.assertIs(is_still((NEVER, PLAIN, NEVER)), True)
        self.assertIs(is_still((KEEP, PLAIN, NEVER, PLAIN, NEVER)), True)
        self.assertIs(is_still((KEEP, PLAIN, KEEP, PLAIN, NEVER)), False)
        # The last one refuses just what the middle one lets through.
        self.assertIs(is_still((KEEP, PLAIN, only_with("a"), PLAIN, only_with("a"))), True)
        self.assertIs(is_still((KEEP, PLAIN, only_with("a"), PLAIN, only_with("b"))), False)

    def test_only_the_last_dress_counts(self):
        # The first dress leaves blanks that the middle cleaner keeps; the last part of the road is plain.
        self.assertIs(is_still((KEEP, PAD, KEEP, PLAIN, KEEP)), True)
        self.assertIs(is_still((KEEP, PAD, KEEP, PAD, TRIM)), False)
        self.assertIs(is_still((KEEP, PAD, TRIM, PAD, TRIM)), True)

    def test_what_is_not_true(self):
        # 0.20: a still road without a cleaner that undoes its dress for all texts.
        double = Dress((({"a": ((("own",), ("fixed", "a")), 0)}, 0, ()),))
        self.assertIs(is_still((dropping(("a",)), double, dropping(("a",)))), True)
        self.assertIs(is_still((KEEP, double, dropping(("a",)))), False)
        # What is filled in cannot be told from what is stored, and yet the road is not still.
        self.assertIs(is_still((KEEP, PAD, TRIM)), False)

    def test_short_walks(self):
        seen = {"still": 0, "stirred": 0}
        for parts, many in ((3, 60), (5, 30)):
            for road in chosen_roads(71, many, parts):
                paper = still_paper(road)
                seen[paper[0]] += 1
                self.assertIs(is_still(road), paper[0] == "still")
                self.assertIs(is_still_paper(road, paper), True)
                least = least_stirring(road, FEW, 2, 1)
                if paper[0] == "still":
                    self.assertIs(least, None)
                    continue
                told = along(road, paper[1], paper[2])
                self.assertIs(comes_back(road, paper[1], paper[2]), False)
                if least is not None:
                    self.assertLessEqual(len(told[-3]), least)
        self.assertGreater(min(seen.values()), 10)

    def test_as_few_signs_as_possible(self):
        # Against a search that keeps all lags.
        known = 0
        for parts, many in ((3, 80), (5, 40)):
            for road in chosen_roads(72, many, parts):
                paper, told = still_paper(road), least_stirring_steps(road)
                cost = None if paper[0] == "still" else len(along(road, paper[1], paper[2])[-3])
                self.assertTrue(is_least(cost, told), (cost, told))
                known += told[0] == cost
        self.assertGreater(known, 100)

    def test_looks_of_three_states(self):
        seen = {"still": 0, "stirred": 0}
        for road in seeing_roads(76, 150):
            paper = still_paper(road)
            seen[paper[0]] += 1
            self.assertIs(is_still_paper(road, paper), True)
            least = least_stirring(road, FEW + ("c",), 2, 1)
            cost = None if paper[0] == "still" else len(along(road, paper[1], paper[2])[-3])
            self.assertTrue(is_least(cost, least_stirring_steps(road)))
            if least is not None:
                self.assertLessEqual(cost, least)
        self.assertGreater(min(seen.values()), 8)

    def test_long_ways_to_the_least_walk(self):
        # Only behind four signs does the cleaner forget one; each shorter text comes back.
        writer = tuple([({("a", None): ("a", at + 1)}, at, "") for at in range(3)]) + (({("a", None): ("", 3)}, 3, ""),)
        road = (KEEP, PLAIN, Cleaner(writer))
        paper = still_paper(road)
        self.assertEqual((paper[0], paper[1], is_still_paper(road, paper)), ("stirred", "aaaa", True))

    def test_least_handed_not_least_read(self):
        # The first cleaner writes nothing for most of its signs: those that it reads do not count.
        road = (dropping(("a", "b")), PAD, KEEP)
        paper = still_paper(road)
        self.assertEqual(along(road, paper[1], paper[2])[1], "")
        twice = Cleaner((({("a", None): ("bb", 0), ("b", None): ("", 0)}, 0, ""),))
        only = Cleaner((({("b", None): ("", 0)}, 0, ""),))
        paper = still_paper((twice, PLAIN, only))
        self.assertEqual(along((twice, PLAIN, only), paper[1], paper[2])[1], "bb")


class Papers(unittest.TestCase):
    def test_all_that_come_have_rows(self):
        for road in STILL + [road for road in chosen_roads(73, 60) if is_still(road)]:
            word, rows = still_paper(road)
            useful = set(useful_standings(road))
            self.assertEqual((word, tuple(row[0] for row in rows)), ("still", standings(road)))
            self.assertEqual(list(rows), sorted(rows, key=repr))
            self.assertEqual([row[0] for row in rows if row[1] is not None], [row[0] for row in rows if row[0] in useful])
            self.assertIs(right_still_rows(road, rows), True)

    def test_one_change(self):
        roads = [road for road in STILL if len(standings(road)) < 150]
        roads += [road for road in chosen_roads(74, 150) if 0 < len(standings(road)) < 60 and is_still(road)]
        marks = []
        for road in roads:
            rows = still_paper(road)[1]
            for changed in changes_of(rows):
                wanted = right_still_rows(road, changed)
                self.assertIs(is_still_paper(road, ("still", changed)), wanted)
                marks.append(wanted)
        self.assertGreater(min(marks.count(True), marks.count(False)), 100)

    def test_more_rows(self):
        road = (KEEP, STAMP, UNSTAMP)
        rows = still_paper(road)[1]
        ends = (("end", 0), ("end", ""))
        for place, lags in (((0, 0, (("fixed", "#"),)), [("#", "")]), ((1, 0, (("fixed", ":"),)), [("", "")]),
                            ((0, 0, (("own", "$"), ("fixed", "ab::"))), []), ((0, 0, (("fixed", "$"),)), [])):
            for lag in [None, ("", ""), ("#", ""), ("", "#"), ("$", ""), ("$:", ""), ("a", "")]:
                more = tuple(sorted(rows + (((*ends, place), lag),), key=repr))
                self.assertIs(right_still_rows(road, more), lag in lags)
                self.assertIs(is_still_paper(road, ("still", more)), lag in lags)
        # A standing from which a step leads to what is none by its form has no row.
        odd = ((0, 0), ("end", ""), (0, 0, ()))
        for lag in (None, ("", "")):
            self.assertIs(is_still_paper(road, ("still", tuple(sorted(rows + ((odd, lag),), key=repr)))), False)
        # An end with "none" has no row at all, though it does not come.
        for lag in (None, ("", ""), ("a", "")):
            more = tuple(sorted(rows + (((*ends, ("none", 0, ())), lag),), key=repr))
            self.assertIs(right_still_rows(road, more), False)
            self.assertIs(is_still_paper(road, ("still", more)), False)
        # What never ends can have any lag.
        road = (TRIM, PAD, TRIM)
        dead = (*ends, (0, 1, ()))
        rows = tuple(row for row in still_paper(road)[1] if row[0] != dead)
        for lag in (None, ("", ""), ("a", ""), ("", "_" * 3000)):
            more = tuple(sorted(rows + ((dead, lag),), key=repr))
            wanted = right_still_rows(road, more)
            self.assertIs(is_still_paper(road, ("still", more)), wanted)
        # No sign leads from there to a guess: such a standing never comes, and its row can have any lag.
        odd = Cleaner((({}, 0, ""),), look=(({}, 0), ({}, 0)))
        road = (KEEP, PLAIN, odd)
        far = (*ends, (0, 1, (("fixed", "ab"),)))
        for lag, wanted in ((None, True), (("", ""), True), (("a", ""), True), (("", "g" * 3000), True), (("a", "a"), False)):
            more = tuple(sorted(still_paper(road)[1] + ((far, lag),), key=repr))
            self.assertIs(is_still_paper(road, ("still", more)), wanted)

    def test_refused_rows(self):
        # Some standings with "refused" come and lead nowhere: their rows have no lag.
        look = (({"#": 1}, 0), ({}, 1))
        last = Cleaner((({("#", None): ("", 0)}, 0, ""),), look=look, firsts=(None, 0))
        road = (dropping(("#",)), Dress((({}, 0, (("fixed", "#"),)),)), last)
        rows = still_paper(road)[1]
        found = [at for at, row in enumerate(rows) if row[0][2][0] == "refused"]
        self.assertGreater(len(found), 3)
        self.assertIs(is_still_paper(road, ("still", rows)), True)
        for at in found:
            self.assertIs(rows[at][1], None)
            changed = rows[:at] + ((rows[at][0], ("", "")),) + rows[at + 1:]
            self.assertIs(is_still_paper(road, ("still", changed)), False)
        # A first one that is refused has no lag either, though no step leads to it or from it.
        mark = Dress((({}, 0, ()),), opening=(("fixed", "#"),))
        road = (dropping(("#",)), mark, Cleaner(last.writer, look=(({"#": 1}, 0), ({"#": 1}, 0)), firsts=(None, 0)))
        rows = still_paper(road)[1]
        (at,) = [at for at, row in enumerate(rows) if row[0][2][:2] == ("refused", 0)]
        self.assertEqual((steps_at(road, rows[at][0]), is_still_paper(road, ("still", rows))), ((), True))
        changed = rows[:at] + ((rows[at][0], ("", "")),) + rows[at + 1:]
        self.assertIs(is_still_paper(road, ("still", changed)), False)

    def test_first_rows(self):
        # A guess that is never a view: its first standing leads nowhere, and yet its lag is even or none.
        odd = Cleaner(dropping(("#",)).writer, look=(({}, 0), ({}, 0)))
        road = (dropping(("#",)), Dress((({}, 0, ()),), opening=(("fixed", "#"),)), odd)
        lone = ((0, 0), (0, ""), (0, 1, (("fixed", "#"),)))
        rows = still_paper(road)[1]
        self.assertEqual(((lone, None) in rows, steps_at(road, lone)), (True, ()))
        for lag, wanted in ((None, True), (("", ""), True), (("a", ""), False), (("", "a"), False)):
            changed = tuple((standing, lag) if standing == lone else (standing, other) for standing, other in rows)
            self.assertIs(is_still_paper(road, ("still", changed)), wanted)

    def test_no_table_for_a_stirred_road(self):
        for road in STIRRED:
            made = tuple((standing, None) for standing in standings(road))
            self.assertIs(is_still_paper(road, ("still", made)), False)
            made = tuple((standing, ("", "")) for standing in standings(road))
            self.assertIs(is_still_paper(road, ("still", made)), False)
            self.assertIs(is_still_paper(road, ("still", ())), False)

    def test_the_empty_table(self):
        self.assertEqual(still_paper((NEVER, PAD, KEEP)), ("still", ()))
        self.assertIs(is_still_paper((NEVER, PAD, KEEP), ("still", ())), True)
        self.assertIs(is_still_paper((KEEP, PLAIN, KEEP), ("still", ())), False)

    def test_stirred_papers(self):
        road = (KEEP, PAD, TRIM)
        for text in ("_", "a_", "__", "a___"):
            for filling in ("", "_", "_" * 3000):
                paper = ("stirred", text, (PAD.dressed(text, (filling,)),))
                self.assertIs(is_still_paper(road, paper), True)
        for text in ("", "a", "_a"):
            self.assertIs(is_still_paper(road, ("stirred", text, (PAD.dressed(text, ("_",)),))), False)
        right = (PAD.dressed("_", ("",)),)
        wrong = [("stirred", "_", [right[0]]), ("stirred", "_", right[0]), ("stirred", "_", ()), ("stirred", "_", right * 2)]
        wrong += [("stirred", "__", right), ("stirred", "a", right), ["stirred", "_", right], ("stirred", "_", right, ())]
        wrong += [("stirred", "_"), ("Stirred", "_", right), ("still", "_", right), ("stirred", "h", right), ("_", right)]
        wrong += [("stirred", None, right), ("stirred", ["_"], right), ("stirred", "_", None), (None, "_", right)]
        for paper in wrong:
            self.assertIs(is_still_paper(road, paper), False)
        for value in every_value():
            self.assertIs(is_still_paper(road, ("stirred", "_", value)), False)
            self.assertIs(is_still_paper(road, ("stirred", "_", (value,))), False)
            if value != "_":
                self.assertIs(is_still_paper(road, ("stirred", value, right)), False)

    def test_stirred_papers_of_five(self):
        road = (KEEP, PAD, KEEP, PAD, TRIM)
        first = PAD.dressed("a", ("_",))
        self.assertIs(is_still_paper(road, ("stirred", "a", (first, PAD.dressed("a_", ("",))))), True)
        self.assertIs(is_still_paper(road, ("stirred", "a", (first,))), False)
        self.assertIs(is_still_paper(road, ("stirred", "a", (first, PAD.dressed("a", ("",))))), False)
        self.assertIs(is_still_paper(road, ("stirred", "a", (PAD.dressed("a", ("",)), PAD.dressed("a", ("_",))))), False)
        # Where the middle cleaner refuses, nothing is handed to the last dress.
        road = (KEEP, PLAIN, only_with("b"), PAD, KEEP)
        self.assertIs(is_still_paper(road, ("stirred", "a", (PLAIN.dressed("a", ()),))), False)
        self.assertIs(is_still_paper(road, ("stirred", "b", (PLAIN.dressed("b", ()), PAD.dressed("b", ("_",))))), True)

    def test_texts_of_any_length_in_papers(self):
        for many in (2000, 2001, 9000):
            text = "a" * many + "_"
            dressing = ((),) + tuple([(("own", sign),) for sign in text]) + ((("filled", ""),),)
            self.assertIs(is_still_paper((KEEP, PAD, TRIM), ("stirred", text, (dressing,))), True)
            self.assertIs(is_still_paper((KEEP, PAD, KEEP), ("stirred", text, (dressing,))), False)

    def test_other_values(self):
        rows = still_paper((KEEP, PLAIN, KEEP))[1]
        for value in every_value() + [("still",), ("still", rows, ()), ["still", rows], ("Still", rows), (rows, "still"), rows]:
            self.assertIs(is_still_paper((KEEP, PLAIN, KEEP), value), False)
        for value in every_value():
            self.assertIs(is_still_paper((KEEP, PLAIN, KEEP), ("still", value)), False)
            self.assertIs(is_still_paper((KEEP, PLAIN, KEEP), ("still", (value,))), False)
            self.assertIs(is_still_paper((KEEP, PLAIN, KEEP), ("still", (*rows, value))), False)
            self.assertIs(is_still_paper((KEEP, PLAIN, KEEP), ("still", ((rows[0][0], value), *rows[1:]))), False)
            self.assertIs(is_still_paper((KEEP, PLAIN, KEEP), ("still", ((value, rows[0][1]), *rows[1:]))), False)


def changes_of(rows):
    """Tables with one change."""
    changed = [list(rows), rows[::-1], rows + rows[-1:], rows[1:], tuple(list(row) for row in rows)]
    for at in range(0, len(rows), max(1, len(rows) // 12)):
        standing, lag = rows[at]
        changed.append(rows[:at] + rows[at + 1:])
        changed.append(rows[:at] + (rows[at], rows[at]) + rows[at + 1:])
        changed.append(rows[:at] + rows[at + 1:at + 2] + (rows[at],) + rows[at + 2:])
        for other in [None, ("", ""), ("a", ""), ("", "a"), ("a", "a"), ["", ""], ("",), ("", "", ""), lag]:
            changed.append(rows[:at] + ((standing, other),) + rows[at + 1:])
            if other != lag:
                changed.append(tuple(sorted(rows + ((standing, other),), key=repr)))
        for other in [list(standing), standing[:-1], (*standing[:-1], list(standing[-1])), standing + ((),), true_for_one(standing)]:
            changed.append(rows[:at] + ((other, lag),) + rows[at + 1:])
        changed.append(rows[:at] + ((standing, lag, None),) + rows[at + 1:])
    return changed


def true_for_one(standing):
    """The same standing but for True and False in the place of 1 and 0, which are equal to them in Python."""
    if isinstance(standing, tuple):
        return tuple(true_for_one(part) for part in standing)
    return {0: False, 1: True}[standing] if standing in (0, 1) else standing


class Settling(unittest.TestCase):
    def test_settles(self):
        self.assertEqual([settles(PAD, TRIM), settles(PLAIN, KEEP), settles(PAD, KEEP), settles(STAMP, UNSTAMP)], [True, True, False, True])
        for road in chosen_roads(75, 40):
            dress, cleaner = road[1:]
            self.assertIs(settles(dress, cleaner), is_still((KEEP, dress, cleaner, dress, cleaner)))

    def test_two_passes_and_not_one(self):
        # Each pass drops one of two signs: behind two passes all is as before, behind one it is not.
        once = Cleaner((({("a", None): ("b", 0), ("b", None): ("", 0)}, 0, ""),))
        self.assertIs(settles(PLAIN, once), False)
        self.assertIs(is_still((KEEP, PLAIN, once)), False)
        self.assertIs(settles(PLAIN, dropping(("a",))), True)

    def test_errors(self):
        for value in [value for value in every_value() if not isinstance(value, Dress)] + [KEEP]:
            for cleaner in (KEEP, None, value):
                with self.assertRaises(InvalidDress):
                    settles(value, cleaner)
        for value in [value for value in every_value() if not isinstance(value, Cleaner)] + [PAD]:
            with self.assertRaises(InvalidCleaner):
                settles(PAD, value)


class Errors(unittest.TestCase):
    def test_roads(self):
        for road in no_roads():
            for function in (is_still, still_paper):
                with self.assertRaises(InvalidRoad):
                    function(road)
            for value in (None, ("still", ())):
                with self.assertRaises(InvalidRoad):
                    is_still_paper(road, value)
