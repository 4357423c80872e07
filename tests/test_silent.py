"""Silent roads: whether what is stored tells what was filled in, and papers that show it (7.1 to 7.3, stage 7)."""

import unittest

from cleandress.clean.cleaners import Cleaner, dropping, only_with
from cleandress.dress.dresses import Dress, dressed_text
from cleandress.dress.holes import Hole
from cleandress.errors import InvalidRoad, TooMany
from cleandress.judge import silent as module
from cleandress.judge.silent import is_silent, is_silent_paper, silent_paper
from cleandress.judge.still import is_still
from cleandress.walk.courses import double_course, starts_of
from cleandress.walk.forms import has_form
from cleandress.walk.moves import moves_at
from tests.chosen import FEW, chosen_roads, seeing_roads
from tests.double import double_starts, double_steps, is_double
from tests.examples import KEEP, PAD, PLAIN, STAMP, TRIM, UNSTAMP
from tests.judges import EVEN, is_least, least_wrong, refused, right_rows, told_useful_of
from tests.test_roads import LONG, NEVER, no_roads
from tests.test_still import changes_of
from tests.values import every_value
from tests.walks import least_telling

SILENT = [(KEEP, PAD, TRIM), (TRIM, PAD, TRIM), (KEEP, STAMP, UNSTAMP), (KEEP, PLAIN, KEEP), (KEEP, PAD, NEVER), (NEVER, PAD, KEEP)]
TELLING = [(KEEP, PAD, KEEP), (KEEP, STAMP, KEEP), (KEEP, PAD, only_with("_")), (TRIM, PAD, KEEP)]


class Interface(unittest.TestCase):
    def test_defined_there(self):
        for value in (is_silent, silent_paper, is_silent_paper):
            self.assertEqual(value.__module__, module.__name__)


class Silent(unittest.TestCase):
    def test_examples(self):
        for road in SILENT:
            self.assertIs(is_silent(road), True)
        for road in TELLING:
            self.assertIs(is_silent(road), False)

    def test_refusing(self):
        # Whether a text is refused is a result, too.
        bit = Dress((({}, 0, (("hole", "x"),)),), {"x": Hole((("#",), 0, 1))})
        drop = dropping(("#",))
        some = Cleaner(drop.writer, look=(({"#": 1}, 0), ({}, 1)), firsts=(None, 0))
        self.assertEqual([is_silent((drop, bit, drop)), is_silent((drop, bit, some))], [True, False])
        paper = silent_paper((drop, bit, some))
        self.assertEqual((paper[1], sorted([some(dressed_text(row)) for row in paper[2:]], key=repr)), (paper[1], ["", None]))
        # Both are refused for texts without "a", whatever is filled in.
        only = Cleaner(drop.writer, look=(({"a": 1}, 0), ({}, 1)), firsts=(None, 0))
        self.assertIs(is_silent((drop, bit, only)), True)
        # The first cleaner refuses what could tell.
        self.assertEqual([is_silent((only_with("a"), PAD, only_with("a"))), is_silent((KEEP, PAD, only_with("a")))], [False, False])
        self.assertIs(is_silent((NEVER, STAMP, KEEP)), True)

    def test_still_roads_are_silent(self):
        for road in chosen_roads(81, 150):
            if is_still(road):
                self.assertIs(is_silent(road), True)

    def test_short_walks(self):
        marks = []
        for road in chosen_roads(82, 120):
            paper = silent_paper(road)
            self.assertIs(is_silent(road), paper[0] == "silent")
            self.assertIs(is_silent_paper(road, paper), True)
            least = least_telling(road, FEW, 2, 1)
            marks.append(paper[0])
            if paper[0] == "silent":
                self.assertIs(least, None)
            elif least is not None:
                self.assertLessEqual(len(road[0](paper[1])), least)
        self.assertGreater(min(marks.count("silent"), marks.count("tells")), 15)

    def test_as_few_signs_as_possible(self):
        known = 0
        for road in chosen_roads(83, 60) + TELLING:
            paper = silent_paper(road)
            told = least_telling_steps(road)
            cost = None if paper[0] == "silent" else len(road[0](paper[1]))
            self.assertTrue(is_least(cost, told), (cost, told))
            known += told[0] == cost
        self.assertGreater(known, 30)

    def test_looks_of_three_states(self):
        marks = []
        for road in seeing_roads(86, 60):
            try:
                paper = silent_paper(road)
            except TooMany:
                continue
            marks.append(paper[0])
            self.assertIs(is_silent_paper(road, paper), True)
            least = least_telling(road, FEW + ("c",), 2, 1)
            cost = None if paper[0] == "silent" else len(road[0](paper[1]))
            self.assertTrue(is_least(cost, least_telling_steps(road)))
            if least is not None:
                self.assertLessEqual(cost, least)
        self.assertGreater(min(marks.count("silent"), marks.count("tells")), 8)

    def test_long_ways(self):
        # What is filled in behind the third "a" alone can be seen.
        star = {"x": Hole((("#",), 0, None))}
        rows = tuple([({"a": ((("own",), ("hole", "x")), at + 1)}, at, ()) for at in range(3)]) + (({"a": ((("own",), ("hole", "x")), 3)}, 3, ()),)
        writer = tuple([({("a", None): ("a", at + 1), ("#", None): ("", at)}, at, "") for at in range(3)]) + (({}, 3, ""),)
        road = (dropping(("#",)), Dress(rows, star), Cleaner(writer))
        paper = silent_paper(road)
        self.assertEqual((paper[0], road[0](paper[1]), is_silent_paper(road, paper)), ("tells", "aaa", True))

    def test_least_dressed_not_least_read(self):
        # The empty text has long fillings alone, others have short ones: what is dressed counts, not what is read.
        holes = {"x": Hole(*[(("#",), 3, 3)] * 3, (("#",), 3, None)), "y": Hole((("#",), 0, None))}
        dress = Dress((({}, 1, (("hole", "x"),)), ({}, 1, (("hole", "y"),))), holes)
        for first in (KEEP, TRIM, dropping(("#",))):
            paper = silent_paper((first, dress, KEEP))
            self.assertEqual((paper[0], first(paper[1])), ("tells", ""))
            self.assertIs(is_silent_paper((first, dress, KEEP), paper), True)


def all_doubles(road, most):
    """All double standings that come, with their steps, or None if there are more."""
    found, kept = double_starts(road), {}
    for standing in found:
        if standing not in kept:
            kept[standing] = double_steps(road, standing)
            found += [row[3] for row in kept[standing]]
        if len(kept) > most:
            return None
    return kept


def least_telling_steps(road):
    """The least number of signs that the dress reads along double steps to a wrong end, with all lags."""
    kept = all_doubles(road, 500)
    if kept is None:
        return None, False
    useful = told_useful_of({standing: [row[3] for row in rows] for standing, rows in kept.items()})
    starts = []
    for standing in double_starts(road):
        marks = refused(standing, 2)
        if standing in useful and not all(marks):
            starts.append((standing, None if any(marks) else EVEN))
    return least_wrong(starts, lambda standing: [row for row in kept[standing] if row[3] in useful])


class DoubleStandings(unittest.TestCase):
    def test_firsts(self):
        course = double_course((TRIM, PAD, only_with("a")))
        made = starts_of(course)
        self.assertEqual(len(made), 2 * 2 * 2)
        self.assertEqual(made[0], ((0, 0), (0, ""), ("refused", 0, ()), ("refused", 0, ())))
        self.assertEqual(made[1], ((0, 0), (0, ""), ("refused", 0, ()), (0, 1, ())))

    def test_the_dress_fills_both_queues(self):
        course = double_course((KEEP, STAMP, UNSTAMP))
        items = (("own", "$"), ("hole", "who", 0, 0), ("fixed", ":"))
        moves = moves_at(course, ((0, 0), (0, "$"), (0, 0, ()), (0, 0, ())))
        self.assertEqual(moves, [(1, "$", "", ((0, 0), (0, ""), (0, 0, items), (0, 0, items)))])

    def test_which_part_is_due(self):
        course = double_course((KEEP, STAMP, UNSTAMP))
        one = (("own", "a"),)
        start = ((0, 0), (0, "$"), (0, 0, one), (0, 0, one))
        (second,) = moves_at(course, start)
        self.assertEqual(second, (3, "a", "a", ((0, 0), (0, "$"), (0, 0, one), (0, 0, ()))))
        (first,) = moves_at(course, second[3])
        self.assertEqual(first, (2, "a", "a", ((0, 0), (0, "$"), (0, 0, ()), (0, 0, ()))))
        self.assertEqual([move[0] for move in moves_at(course, first[3])], [1])
        ended = (("end", 0), ("end", ""), (0, 0, ()), ("refused", 0, ()))
        (third,) = moves_at(course, ended)
        self.assertEqual(third, (2, "", "", (("end", 0), ("end", ""), ("end", 0, ()), ("refused", 0, ()))))
        self.assertEqual(moves_at(course, third[3]), [(3, "", "", (("end", 0), ("end", ""), ("end", 0, ()), ("none", 0, ())))])
        self.assertEqual(moves_at(course, moves_at(course, third[3])[0][3]), [])

    def test_forms(self):
        course = double_course((KEEP, STAMP, UNSTAMP))
        first, dress, last = (0, 0), (0, ""), (1, 0, (("hole", "who", 0, 0),))
        for word in ("refused", "none", "end"):
            self.assertIs(has_form(course, (first, dress, last, (word, 0, ()))), True)
            self.assertIs(has_form(course, (first, dress, (word, 0, ()), last)), True)
            self.assertIs(has_form(course, (first, dress, (word, 0, ()), (word, 0, ()))), True)
        for value in [(first, dress, last), (first, dress, last, last, last), (first, dress, dress, last), ("refused", dress, last, last),
                      (first, dress, last, ("none", 0, (("own", "a"),))), (first, dress, last, (2, 0, ())), (("refused", 0), dress, last, last),
                      (first, dress, last, (0, 0, (("ahead", "a"),))), (first, dress, (0, 0, (("behind",),)), last)]:
            self.assertIs(has_form(course, value), False)
        for value in every_value():
            self.assertIs(has_form(course, value), False)


class Papers(unittest.TestCase):
    def judge(self, road, rows):
        steps = {}

        def told(standing):
            if standing not in steps:
                steps[standing] = [(one, other, reached) for one, other, _, reached in double_steps(road, standing)]
            return steps[standing]

        return right_rows(rows, lambda value: is_double(road, value), double_starts(road), told, 2)

    def test_all_that_come_have_rows(self):
        for road in SILENT + [road for road in chosen_roads(84, 40) if is_silent(road)]:
            word, rows = silent_paper(road)
            self.assertEqual((word, list(rows)), ("silent", sorted(rows, key=repr)))
            self.assertIs(self.judge(road, rows), True)
            kept = {standing: [row[3] for row in steps] for standing, steps in all_doubles(road, 4000).items()}
            useful = told_useful_of(kept)
            wanted = [standing for standing, _ in rows if standing in useful and not any(refused(standing, 2))]
            self.assertEqual([standing for standing, lag in rows if lag is not None], wanted)
            self.assertEqual(tuple(standing for standing, _ in rows), tuple(sorted(kept, key=repr)))

    def test_one_change(self):
        marks = []
        roads = SILENT + [road for road in chosen_roads(85, 80) if is_silent(road)]
        tables = [(road, silent_paper(road)[1]) for road in roads]
        for road, rows in [table for table in tables if 0 < len(table[1]) < 60][:12]:
            for changed in changes_of(rows):
                wanted = self.judge(road, changed)
                self.assertIs(is_silent_paper(road, ("silent", changed)), wanted)
                marks.append(wanted)
        self.assertGreater(min(marks.count(True), marks.count(False)), 60)

    def test_other_words(self):
        rows = silent_paper((KEEP, PAD, TRIM))[1]
        for word in ("still", "pass", "Silent", "", None, "tells"):
            self.assertIs(is_silent_paper((KEEP, PAD, TRIM), (word, rows)), False)
        self.assertIs(is_silent_paper((KEEP, PAD, TRIM), ("silent", rows)), True)
        self.assertIs(is_silent_paper((KEEP, PAD, TRIM), ("silent", rows, rows)), False)

    def test_rows_of_refused_ones(self):
        rows = silent_paper((KEEP, PAD, NEVER))[1]
        ends = [row for row in rows if row[0][2][0] == "none" and row[0][3][0] == "none"]
        self.assertEqual((len(ends), set(row[1] for row in rows)), (1, {None}))
        for at in range(len(rows)):
            changed = rows[:at] + ((rows[at][0], ("", "")),) + rows[at + 1:]
            self.assertIs(is_silent_paper((KEEP, PAD, NEVER), ("silent", changed)), False)

    def test_no_table_for_a_road_that_tells(self):
        for road in TELLING:
            for lag in (None, ("", "")):
                rows = tuple(sorted([(standing, lag) for standing in all_doubles(road, 4000)], key=repr))
                self.assertIs(is_silent_paper(road, ("silent", rows)), False)

    def test_telling_papers(self):
        road = (KEEP, PAD, KEEP)
        none, one, two = [PAD.dressed("a", (filling,)) for filling in ("", "_", "_" * 3000)]
        for first, second in ((none, one), (one, none), (one, two)):
            self.assertIs(is_silent_paper(road, ("tells", "a", first, second)), True)
            self.assertIs(is_silent_paper((KEEP, PAD, TRIM), ("tells", "a", first, second)), False)
        wrong = [("tells", "a", one, one), ("tells", "b", none, one), ("tells", "a", none), ("tells", "a", none, one, two)]
        wrong += [["tells", "a", none, one], ("Tells", "a", none, one), ("silent", "a", none, one), ("tells", None, none, one)]
        wrong += [("tells", "h", none, one), ("tells", "a", list(none), one), ("tells", "a", none, None), ("tells", ["a"], none, one)]
        for paper in wrong:
            self.assertIs(is_silent_paper(road, paper), False)
        for value in every_value():
            self.assertIs(is_silent_paper(road, ("tells", "a", value, one)), False)
            self.assertIs(is_silent_paper(road, ("tells", "a", one, value)), False)
            self.assertIs(is_silent_paper(road, ("tells", value, none, one)), value == "a")
            self.assertIs(is_silent_paper(road, ("silent", value)), False)
            self.assertIs(is_silent_paper(road, value), False)

    def test_what_the_first_cleaner_writes_is_dressed(self):
        drop = dropping(("a",))
        paper = ("tells", "ab", PAD.dressed("b", ("",)), PAD.dressed("b", ("_",)))
        self.assertIs(is_silent_paper((drop, PAD, KEEP), paper), True)
        self.assertIs(is_silent_paper((KEEP, PAD, KEEP), paper), False)
        self.assertIs(is_silent_paper((only_with("c"), PAD, KEEP), paper), False)
        # One of both is refused.
        road = (KEEP, PAD, only_with("_"))
        self.assertIs(is_silent_paper(road, ("tells", "a", PAD.dressed("a", ("",)), PAD.dressed("a", ("_",)))), True)
        self.assertIs(is_silent_paper((KEEP, PAD, NEVER), ("tells", "a", PAD.dressed("a", ("",)), PAD.dressed("a", ("_",)))), False)

    def test_long_texts(self):
        text = "a" * 5000
        rows = [((),) + ((("own", "a"),),) * 5000 + ((("filled", filling),),) for filling in ("", "_")]
        self.assertIs(is_silent_paper((KEEP, PAD, KEEP), ("tells", text, *rows)), True)
        self.assertIs(is_silent_paper((KEEP, PAD, TRIM), ("tells", text, *rows)), False)


class Errors(unittest.TestCase):
    def test_roads(self):
        for road in no_roads() + [LONG, (KEEP, PAD, TRIM, PAD, TRIM)]:
            for function in (is_silent, silent_paper):
                with self.assertRaises(InvalidRoad):
                    function(road)
            for value in (None, ("silent", ()), ("tells", "", (), ())):
                with self.assertRaises(InvalidRoad):
                    is_silent_paper(road, value)
