"""Edits: what they are, whether they come through, and papers that show it (8.1 to 8.4, stage 8)."""

import itertools
import random
import unittest

from cleandress.clean.cleaners import Cleaner, MadeCleaner, dropping, only_with
from cleandress.dress.dresses import Dress, dressed_text
from cleandress.dress.holes import Hole
from cleandress.errors import InvalidDress, InvalidOperation, InvalidRoad, InvalidText, TooMany
from cleandress.judge import edits as module
from cleandress.judge.edits import (edited_text, edits_paper, edits_pass, greatest_typed, is_edit, is_edits_paper,
                                    wanted_text)
from cleandress.judge.still import is_still
from cleandress.walk.courses import edit_course, starts_of
from cleandress.walk.forms import has_form
from cleandress.walk.moves import moves_at
from cleandress.walk.standings import first_standings, standings
from tests.chosen import FEW, chosen_dress, chosen_roads, seeing_roads
from tests.double import edit_steps, is_edit_standing
from tests.examples import KEEP, PAD, PLAIN, STAMP, TRIM, UNSTAMP
from tests.judges import EVEN, is_least, least_wrong, right_rows, told_useful_of
from tests.oracle import all_texts
from tests.test_dressings import TWO
from tests.test_roads import LONG, NEVER, no_roads
from tests.test_still import changes_of
from tests.values import every_value, no_sign_tuples, no_texts, short
from tests.walks import edits_of, short_edits, told_edited, told_wanted

ROAD = (KEEP, STAMP, UNSTAMP)
TYPED = [(), ("a",), ("_", "b")]


class Interface(unittest.TestCase):
    def test_defined_there(self):
        for value in (is_edit, edited_text, wanted_text, edits_pass, edits_paper, is_edits_paper, greatest_typed):
            self.assertEqual(value.__module__, module.__name__)


class Edits(unittest.TestCase):
    def test_plain_rows(self):
        right = [(("own", "a"),), (("left", "a"),), (("typed", "b"), ("own", "a")), (("own", "a"), ("typed", "#b")),
                 (("typed", "b"), ("left", "a"), ("typed", "##")), (("left", "a"), ("typed", "b")), (("typed", "b" * 5000), ("own", "a"))]
        wrong = [(), (("own", "b"),), (("left", "b"),), (("typed", "b"),), (("typed", ""), ("own", "a")), (("typed", "c"), ("own", "a")),
                 (("own", "a"), ("own", "a")), (("own", "a"), ("left", "a")), (("left", "a"), ("own", "a")), (("fixed", "a"),), (("filled", "a"),),
                 (("typed", "b"), ("typed", "b"), ("own", "a")), (("own", "a"), ("typed", "b"), ("typed", "b")), [("own", "a")],
                 (["own", "a"],), (("own", "a"), ["typed", "b"]), (("own", "a"), ("typed", "ba")), (("own", "a"), ("typed", ["b"])),
                 (("typed", "b"), ("own", "a"), ("typed", "b"), ("typed", "b")), (("own", "a", ""),), (("typed", "b", ""), ("own", "a")),
                 (("typed", None), ("own", "a")), (("own", "a"), ("typed", "")), (("typed", "b"), ("typed", "b")), (("typed", "h"), ("own", "a"))]
        for rows, wanted in ((right, True), (wrong, False)):
            for row in rows:
                self.assertIs(is_edit(PLAIN, "a", ("#", "b"), ((), row, ())), wanted, row)
                self.assertIs(is_edit(PLAIN, "ga", ("#", "b"), ((), (("left", "g"),), row, ())), wanted, row)
        for value in every_value():
            for row in ((value,), (("own", "a"), value), (value, ("own", "a"))):
                self.assertIs(is_edit(PLAIN, "a", ("#", "b"), ((), row, ())), False)
            self.assertIs(is_edit(PLAIN, "a", ("#", "b"), ((), value, ())), False)
            self.assertIs(is_edit(PLAIN, "a", ("a",), ((), (("own", "a"), ("typed", value)), ())), value in ("a", "a" * 4000))

    def test_other_rows(self):
        right = STAMP.dressed("a$", ("ab",))
        self.assertIs(is_edit(STAMP, "a$", (), right), True)
        rows = list(right)
        for at, row in ((0, (("typed", "a"),)), (2, (("left", "$"),) + rows[2][1:]), (2, rows[2] + (("typed", "a"),)),
                        (2, (("typed", "a"),) + rows[2]), (3, (("typed", "a"),)), (2, rows[2][:1] + (("filled", "c"),) + rows[2][2:]),
                        (1, ()), (2, rows[2][:2])):
            self.assertIs(is_edit(STAMP, "a$", ("a",), tuple(rows[:at] + [row] + rows[at + 1:])), False)
        self.assertIs(is_edit(STAMP, "a$", ("a",), (rows[0], (("typed", "a"), ("left", "a")), *rows[2:])), True)
        self.assertIs(is_edit(STAMP, "a$", ("a",), (*rows[:2], rows[2][:1] + (("filled", "b" * 3000),) + rows[2][2:], rows[3])), True)

    def test_dressings_are_edits(self):
        chance = random.Random(91)
        for _ in range(30):
            dress = chosen_dress(chance, states=3, moves=2)
            for text in all_texts(FEW, 2):
                for dressing in itertools.islice(dress.dressings(text, many=1), 3):
                    for typed in TYPED:
                        self.assertIs(is_edit(dress, text, typed, dressing), True)
                    self.assertEqual((edited_text(dressing), wanted_text(text, dressing)), (dressed_text(dressing), text))
                    for edit in itertools.islice(edits_of(dressing, dress.plain(text), ("a",)), 40):
                        self.assertIs(is_edit(dress, text, ("a", "b"), edit), True)
                        self.assertIs(is_edit(dress, text, ("b",), edit), not any(piece[0] == "typed" for row in edit for piece in row))
                        self.assertEqual(edited_text(edit), told_edited(edit))
                        self.assertEqual(wanted_text(text, edit), told_wanted(text, edit, dress.plain(text)))

    def test_texts_of_any_length(self):
        for many in (2000, 2001, 8000):
            rows = ((),) + ((("left", "a"),),) * many + ((),)
            self.assertIs(is_edit(PLAIN, "a" * many, (), rows), True)
            self.assertIs(is_edit(PLAIN, "a" * (many + 1), (), rows), False)
            self.assertEqual(edited_text(rows), "")

    def test_other_values(self):
        right = PLAIN.dressed("ab", ())
        for value in every_value() + [list(right), right[1:], right + ((),), (right,), right[::-1], [right]]:
            self.assertIs(is_edit(PLAIN, "ab", ("a",), value), False)
        for text in ("", "a", "ba", "abc"):
            self.assertIs(is_edit(PLAIN, text, ("a",), right), False)

    def test_errors(self):
        right = PLAIN.dressed("a", ())
        for value in [value for value in every_value() if not isinstance(value, Dress)] + [KEEP, (PLAIN,)]:
            for text, typed in (("a", ()), (None, None)):
                with self.assertRaises(InvalidDress):
                    is_edit(value, text, typed, right)
        for value in no_texts():
            if value not in ("a" * 2001, "a" * 4000):
                for typed in ((), None):
                    with self.assertRaises(InvalidText):
                        is_edit(PLAIN, value, typed, right)
        for value in no_sign_tuples():
            with self.assertRaises(InvalidText):
                is_edit(PLAIN, "a", value, right)


class EditTexts(unittest.TestCase):
    EDIT = ((("fixed", "01"),), (("typed", "#"), ("left", "a"), ("typed", "$")), (("filled", "22"), ("own", "b"), ("fixed", "3")),
            (("own", "c"), ("typed", "_")), (), (("filled", ""),))

    def test_both_texts(self):
        self.assertEqual(edited_text(self.EDIT), "01#$22b3c_")
        self.assertEqual(wanted_text("abcd", self.EDIT), "#$bc_d")
        self.assertEqual([edited_text(()), edited_text(((), ())), wanted_text("", ((), ()))], ["", "", ""])
        self.assertEqual(edited_text(((("typed", "a" * 4000), ("left", "b" * 4000)),)), "a" * 4000)

    def test_errors_of_pieces(self):
        for value in every_value() + [[()], [((), ())], ([],), ((("own", "a"),), [])]:
            if value != ():
                with self.assertRaises(InvalidOperation):
                    edited_text(value)
                with self.assertRaises(InvalidOperation):
                    wanted_text("a", value)
        for piece in every_value() + [("hole", "a"), ("own",), ["own", "a"], ("own", "a", ""), ("own", "h"), ("own", None), ("Own", "a")]:
            with self.assertRaises(InvalidOperation):
                edited_text(((), (piece,)))
            with self.assertRaises(InvalidOperation):
                wanted_text("a", ((), (("own", "a"), piece), ()))

    def test_errors_of_rows(self):
        for text in ("", "abc", "abcde", "a" * 2000):
            with self.assertRaises(InvalidOperation):
                wanted_text(text, self.EDIT)
        for rows in ((), ((),), ((), (), ())):
            with self.assertRaises(InvalidOperation):
                wanted_text("", rows)

    def test_errors_of_texts(self):
        for text in no_texts():
            for edit in (self.EDIT, None, ()):
                with self.assertRaises(InvalidText):
                    wanted_text(text, edit)
        with self.assertRaises(InvalidText):
            wanted_text("a" * 2001, ((),) + ((("own", "a"),),) * 2001 + ((),))
        self.assertEqual(wanted_text("a" * 2000, ((),) + ((("own", "a"),),) * 2000 + ((),)), "a" * 2000)


class Passing(unittest.TestCase):
    def test_examples(self):
        told = [(ROAD, (), True), (ROAD, (":", "_", "a"), True), (ROAD, ("$",), False), ((KEEP, PLAIN, KEEP), tuple("#$0123:_abcdefg"), True)]
        # A blank that is typed at the end is trimmed, and so is one that stays there when others are left out.
        told += [((TRIM, PAD, TRIM), (), False), ((KEEP, PAD, KEEP), (), False), ((dropping(("_",)), PAD, TRIM), ("a",), True)]
        told += [((dropping(("_",)), PAD, TRIM), ("_", "a"), False), ((KEEP, PLAIN, NEVER), (), False), ((NEVER, PLAIN, NEVER), ("a",), True)]
        for road, typed, wanted in told:
            self.assertIs(edits_pass(road, typed), wanted)

    def test_then_the_road_is_still(self):
        passing = 0
        for road in chosen_roads(92, 150):
            for typed in TYPED:
                if edits_pass(road, typed):
                    passing += 1
                    self.assertIs(is_still(road), True)
        self.assertGreater(passing, 15)

    def test_what_is_refused_fails(self):
        road = (only_with("a"), PLAIN, only_with("a"))
        self.assertIs(is_still(road), True)
        paper = edits_paper(road, ())
        self.assertEqual((paper[:2], edited_text(paper[2])), (("fail", "a"), ""))

    def test_short_edits(self):
        marks = []
        for road in chosen_roads(93, 70):
            for typed in TYPED[:2]:
                paper = edits_paper(road, typed)
                marks.append(paper[0])
                self.assertIs(edits_pass(road, typed), paper[0] == "pass")
                self.assertIs(is_edits_paper(road, typed, paper), True)
                wrong = []
                for text, handed, edit, cost, wanted, result in short_edits(road, FEW, 2, 1, typed):
                    if wanted != result:
                        wrong.append(cost)
                        self.assertIs(is_edits_paper(road, typed, ("fail", text, edit)), True)
                if paper[0] == "pass":
                    self.assertEqual(wrong, [])
                elif wrong:
                    self.assertLessEqual(cost_of(road, paper), min(wrong))
        self.assertGreater(min(marks.count("pass"), marks.count("fail")), 10)

    def test_as_few_signs_as_possible(self):
        known = 0
        for road in chosen_roads(94, 60) + [ROAD, (dropping(("_",)), PAD, TRIM)]:
            for typed in ((), ("a",), ("$", "_")):
                told, paper = least_failing_steps(road, typed), edits_paper(road, typed)
                cost = None if paper[0] == "pass" else cost_of(road, paper)
                self.assertTrue(is_least(cost, told), (cost, told))
                known += told[0] == cost
        self.assertGreater(known, 100)

    def test_looks_of_three_states(self):
        marks = []
        for road in seeing_roads(98, 60):
            for typed in ((), ("b",), ("c", "d")):
                paper = edits_paper(road, typed)
                marks.append(paper[0])
                self.assertIs(is_edits_paper(road, typed, paper), True)
                wrong = [row[3] for row in short_edits(road, FEW, 1, 1, typed) if row[4] != row[5]]
                cost = None if paper[0] == "pass" else cost_of(road, paper)
                self.assertTrue(is_least(cost, least_failing_steps(road, typed)))
                if wrong:
                    self.assertLessEqual(cost, min(wrong))
        self.assertGreater(min(marks.count("pass"), marks.count("fail")), 10)

    def test_typed_signs_count(self):
        # A third typed "b" is lost: three signs are typed beside one that is left out or stays.
        writer = tuple([({("b", None): ("b", at + 1)}, at, "") for at in range(2)]) + (({("b", None): ("", 2)}, 2, ""),)
        road = (dropping(("b",)), PLAIN, Cleaner(writer))
        paper = edits_paper(road, ("b",))
        self.assertEqual((paper[0], cost_of(road, paper), edits_pass(road, ("a",))), ("fail", 4, True))
        typed = [piece[1] for row in paper[2] for piece in row if piece[0] == "typed"]
        self.assertEqual("".join(typed), "bbb")


def cost_of(road, paper):
    _, text, edit = paper
    return len(road[0](text)) + sum(len(told) for row in edit for sort, told in row if sort == "typed")


def all_edits(road, typed, most):
    """All edit standings that come, with their steps, or None if there are more."""
    found, kept = list(first_standings(road)), {}
    for standing in found:
        if standing not in kept:
            kept[standing] = edit_steps(road, typed, standing)
            found += [row[3] for row in kept[standing]]
        if len(kept) > most:
            return None
    return kept


def least_failing_steps(road, typed):
    kept = all_edits(road, typed, 400)
    if kept is None:
        return None, False
    useful = told_useful_of({standing: [row[3] for row in rows] for standing, rows in kept.items()})
    starts = [(standing, None if standing[2][0] == "refused" else EVEN) for standing in first_standings(road) if standing in useful]
    return least_wrong(starts, lambda standing: [row for row in kept[standing] if row[3] in useful])


class EditStandings(unittest.TestCase):
    def moves(self, typed, standing, road=ROAD):
        return [(taken, written, reached[2]) for _, taken, written, reached in moves_at(edit_course(road, typed), standing)]

    def test_a_plain_sign(self):
        (move,) = moves_at(edit_course(ROAD, ("b",)), ((0, 0), (0, "a$"), (0, 0, ())))
        self.assertEqual(move, (1, "a", "", ((0, 0), (0, "$"), (0, 0, (("ahead", "a"),)))))
        (move,) = moves_at(edit_course(ROAD, ("b",)), ((0, 0), (0, "$"), (0, 0, ())))
        self.assertEqual(move[3][2][2], (("own", "$"), ("hole", "who", 0, 0), ("fixed", ":")))

    def test_ahead_and_behind(self):
        away = (("end", 0), ("end", ""))
        steps = self.moves(("$", "b"), (*away, (1, 0, (("ahead", "a"),))))
        behind = (("behind",),)
        wanted = [("$", "$", (0, 0, (("ahead", "a"),))), ("b", "", (1, 0, (("ahead", "a"),))), ("a", "", (1, 0, behind)), ("", "", (1, 0, behind))]
        self.assertEqual(steps, wanted)
        steps = self.moves(("$", "b"), (*away, (1, 0, (*behind, ("own", "g")))))
        wanted = [("$", "$", (0, 0, (*behind, ("own", "g")))), ("b", "", (1, 0, (*behind, ("own", "g")))), ("", "", (1, 0, (("own", "g"),)))]
        self.assertEqual(steps, wanted)
        self.assertEqual(self.moves((), (*away, (0, 0, (("ahead", "a"),)))), [("a", "a", (0, 0, behind)), ("", "", (0, 0, behind))])
        # By signs, and for each sign by guesses.
        steps = self.moves(("_",), (*away, (0, 0, (("ahead", "_"),))), (TRIM, PAD, TRIM))
        self.assertEqual(steps, [("_", "", (0, 0, (("ahead", "_"),))), ("_", "", (0, 0, behind)), ("", "", (0, 0, behind))])
        steps = self.moves(("a",), (*away, ("refused", 0, behind)))
        self.assertEqual(steps, [("a", "", ("refused", 0, behind)), ("", "", ("refused", 0, ()))])

    def test_against_the_steps_of_parts(self):
        for road in chosen_roads(95, 25) + [ROAD, (TRIM, PAD, TRIM)]:
            for typed in TYPED:
                kept = all_edits(road, typed, 4000)
                course = edit_course(road, typed)
                self.assertEqual(sorted(starts_of(course), key=repr), list(first_standings(road)))
                for standing, rows in kept.items():
                    told = [module.edit_gain(course, standing, move) + (move[3],) for move in moves_at(course, standing)]
                    self.assertEqual(told, rows)

    def test_forms(self):
        course = edit_course(ROAD, ())
        first, dress = (0, 0), (0, "")
        for item, wanted in ((("ahead", "a"), True), (("behind",), True), (("own", "a"), True), (("ahead", "h"), False), (("ahead",), False),
                             (("behind", "a"), False), (("ahead", "ab"), False), (["behind"], False), (("ahead", None), False),
                             (("typed", "a"), False), (("left", "a"), False), (("ahead", "a", 0), False)):
            value = (first, dress, (0, 0, (item,)))
            self.assertIs(has_form(course, value), wanted)
            self.assertIs(is_edit_standing(ROAD, value), wanted)
        for value in every_value():
            self.assertIs(has_form(course, (first, dress, (0, 0, (value,)))), False)
            self.assertIs(has_form(course, value), False)


class Papers(unittest.TestCase):
    def judge(self, road, typed, rows):
        steps = {}

        def told(standing):
            if standing not in steps:
                steps[standing] = [(wanted, written, reached) for wanted, written, _, reached in edit_steps(road, typed, standing)]
            return steps[standing]

        return right_rows(rows, lambda value: is_edit_standing(road, value), first_standings(road), told)

    def passing(self):
        roads = [(ROAD, ("a",)), ((KEEP, PLAIN, KEEP), ("b",)), ((dropping(("_",)), PAD, TRIM), ("a",)), ((NEVER, PLAIN, KEEP), ())]
        for road in chosen_roads(96, 80):
            for typed in TYPED:
                if edits_pass(road, typed):
                    roads.append((road, typed))
        return roads

    def test_all_that_come_have_rows(self):
        for road, typed in self.passing():
            word, rows = edits_paper(road, typed)
            kept = all_edits(road, typed, 4000)
            useful = told_useful_of({standing: [row[3] for row in steps] for standing, steps in kept.items()})
            self.assertEqual((word, tuple(row[0] for row in rows)), ("pass", tuple(sorted(kept, key=repr))))
            self.assertEqual(list(rows), sorted(rows, key=repr))
            self.assertEqual([row[0] for row in rows if row[1] is not None], [row[0] for row in rows if row[0] in useful])
            self.assertIs(self.judge(road, typed, rows), True)
            self.assertIs(is_edits_paper(road, typed, (word, rows)), True)

    def test_one_change(self):
        marks = []
        tables = [(road, typed, edits_paper(road, typed)[1]) for road, typed in self.passing()]
        for road, typed, rows in [table for table in tables if 0 < len(table[2]) < 90][:12]:
            for changed in changes_of(rows):
                wanted = self.judge(road, typed, changed)
                self.assertIs(is_edits_paper(road, typed, ("pass", changed)), wanted)
                marks.append(wanted)
        self.assertGreater(min(marks.count(True), marks.count(False)), 30)

    def test_more_rows(self):
        ends = (("end", 0), ("end", ""))
        rows = edits_paper((KEEP, PLAIN, KEEP), ("a",))[1]
        # Such a sign is wanted as well as written, so the lag stays.
        for item, lags in ((("ahead", "c"), [EVEN]), (("own", "c"), [("c", "")]), (("fixed", "c"), [("c", "")]), (("behind",), [EVEN])):
            for lag in (None, EVEN, ("c", ""), ("", "c"), ("a", "")):
                value = (*ends, (0, 0, (item,)))
                more = tuple(sorted([row for row in rows if row[0] != value] + [(value, lag), ((*ends, (0, 0, (("behind",),))), EVEN)], key=repr))
                if len(set(row[0] for row in more)) == len(more):
                    self.assertIs(is_edits_paper((KEEP, PLAIN, KEEP), ("a",), ("pass", more)), lag in lags)

    def test_other_typed_signs(self):
        rows = edits_paper(ROAD, ("a",))[1]
        self.assertIs(is_edits_paper(ROAD, ("a",), ("pass", rows)), True)
        # With fewer typed signs no other standings come; with a sign that fails no table is right.
        self.assertIs(is_edits_paper(ROAD, (), ("pass", rows)), True)
        self.assertIs(is_edits_paper(ROAD, ("$",), ("pass", rows)), False)

    def test_other_words(self):
        rows = edits_paper(ROAD, ("a",))[1]
        for word in ("still", "silent", "Pass", "", None, "fail"):
            self.assertIs(is_edits_paper(ROAD, ("a",), (word, rows)), False)
        self.assertIs(is_edits_paper(ROAD, ("a",), ("pass", rows)), True)
        self.assertIs(is_edits_paper(ROAD, ("a",), ("pass", rows, rows)), False)

    def test_several_plain_signs(self):
        # Only this row is cut: a "b", a "#", a "$", another "b", a "0". The first cleaner lets no "b" through.
        wanted = "b#$b0"
        writer = [({(sign, None): (sign, at + 1)}, 0, "") for at, sign in enumerate(wanted[:-1])]
        last = MadeCleaner(tuple(writer) + (({("0", None): ("", 0)}, 0, ""),), (({}, 0),), (0,))
        road = (dropping(("b",)), PLAIN, last)
        paper = edits_paper(road, ("b",))
        self.assertEqual((paper[:2], edited_text(paper[2]), cost_of(road, paper)), (("fail", "#$0"), wanted, 5))
        self.assertIs(is_edits_paper(road, ("b",), paper), True)
        self.assertIs(edits_pass(road, ("a",)), True)

    def test_holes_beside_edits(self):
        # What is filled in ahead, between and behind, and what is typed, come back in their own places.
        drop = dropping(("_",))
        for low in (0, 1, 3):
            hole = Hole((("_",), low, None), (("_",), 0, 1))
            moves = {"a": ((("hole", "x"), ("own",), ("hole", "x")), 0)}
            dress = Dress(((moves, 0, (("hole", "x"),)),), {"x": hole}, opening=(("hole", "x"), ("fixed", "_")))
            paper = edits_paper((drop, dress, drop), ("_",))
            self.assertEqual((paper[0], cost_of((drop, dress, drop), paper)), ("fail", 2))
            self.assertIs(is_edits_paper((drop, dress, drop), ("_",), paper), True)
            self.assertIs(edits_pass((drop, dress, drop), ("a", "b")), True)
            # Behind two "a" a plain sign is lost, so both rows with holes come ahead of it.
            writer = [({("a", None): ("a", at + 1), ("_", None): ("", at)}, at, "") for at in range(2)]
            lossy = Cleaner((*writer, ({("_", None): ("", 2), ("b", None): ("", 2)}, 2, "")))
            road = (Cleaner((({("_", None): ("", 0), ("b", None): ("", 0)}, 0, ""),)), dress, lossy)
            paper = edits_paper(road, ("b",))
            self.assertEqual((paper[0], cost_of(road, paper), is_edits_paper(road, ("b",), paper)), ("fail", 4, True))

    def test_failing_papers(self):
        edit = ((), (("typed", "$"), ("own", "a")), ())
        for typed, wanted in ((("$",), True), (("$", "a"), True), (("a",), False), ((), False)):
            self.assertIs(is_edits_paper(ROAD, typed, ("fail", "a", edit)), wanted)
        passes = ((), (("own", "a"), ("typed", "$")), ())
        self.assertIs(is_edit(STAMP, "a", ("$",), passes), True)
        self.assertIs(is_edits_paper(ROAD, ("$",), ("fail", "a", passes)), False)
        wrong = [("fail", "b", edit), ("fail", "a", list(edit)), ["fail", "a", edit], ("fail", "a", edit, ()), ("Fail", "a", edit)]
        wrong += [("pass", "a", edit), ("fail", "a"), ("fail", None, edit), ("fail", "h", edit), ("fail", ["a"], edit), ("fail", edit, "a")]
        for paper in wrong:
            self.assertIs(is_edits_paper(ROAD, ("$",), paper), False)
        for value in every_value():
            self.assertIs(is_edits_paper(ROAD, ("$",), ("fail", "a", value)), False)
            self.assertIs(is_edits_paper(ROAD, ("$",), ("fail", value, edit)), value == "a", short(value))
            self.assertIs(is_edits_paper(ROAD, ("$",), ("pass", value)), False)
            self.assertIs(is_edits_paper(ROAD, ("$",), value), False)

    def test_what_the_first_cleaner_writes_is_edited(self):
        left = ((), (("left", "_"),), (("left", "a"),), (("filled", ""),))
        self.assertIs(is_edits_paper((KEEP, PAD, TRIM), (), ("fail", "_a", ((), (("own", "_"),), (("left", "a"),), (("filled", ""),)))), True)
        self.assertIs(is_edits_paper((KEEP, PAD, TRIM), (), ("fail", "_a", left)), False)
        paper = ("fail", "b_ab", ((), (("own", "_"),), (("left", "a"),), (("filled", ""),)))
        self.assertIs(is_edits_paper((dropping(("b",)), PAD, TRIM), (), paper), True)
        self.assertIs(is_edits_paper((KEEP, PAD, TRIM), (), paper), False)
        self.assertIs(is_edits_paper((NEVER, PAD, TRIM), (), paper), False)
        # The edited text is refused.
        road = (KEEP, PLAIN, only_with("a"))
        self.assertIs(is_edits_paper(road, (), ("fail", "a", ((), (("left", "a"),), ()))), True)
        self.assertIs(is_edits_paper(road, (), ("fail", "aa", ((), (("left", "a"),), (("own", "a"),), ()))), False)

    def test_long_texts(self):
        rows = ((),) + ((("own", "a"),),) * 4000 + ((("own", "_"),), (("filled", ""),))
        self.assertIs(is_edits_paper((KEEP, PAD, TRIM), (), ("fail", "a" * 4000 + "_", rows)), True)
        self.assertIs(is_edits_paper((KEEP, PAD, KEEP), (), ("fail", "a" * 4000 + "_", rows)), False)


class Greatest(unittest.TestCase):
    def told(self, road, signs):
        sets = [tuple(found) for many in range(len(signs) + 1) for found in itertools.combinations(signs, many)]
        passing = [found for found in sets if edits_pass(road, found)]
        return tuple(sorted(found for found in passing if not any(set(found) < set(other) for other in passing)))

    def test_examples(self):
        self.assertEqual(greatest_typed(ROAD, ()), ((),))
        self.assertEqual(greatest_typed(ROAD, ("$",)), ((),))
        self.assertEqual(greatest_typed((KEEP, PAD, TRIM), ("a", "b")), ())
        self.assertEqual(greatest_typed((KEEP, PLAIN, KEEP), tuple("#$0123")), (tuple("#$0123"),))
        self.assertEqual(greatest_typed((KEEP, PLAIN, NEVER), ()), ())

    def test_against_each_set(self):
        many = []
        for road in chosen_roads(97, 40) + [(dropping(("_",)), PAD, TRIM), ROAD]:
            made = greatest_typed(road, ("$", "_", "a", "b"))
            many.append(len(made))
            self.assertEqual(made, self.told(road, ("$", "_", "a", "b")))
        self.assertEqual(sorted(set(many))[:2], [0, 1])

    def test_several_greatest_sets(self):
        # Any two of these signs are told apart, but where all three are typed the cleaner forgets one.
        road = (dropping(("a", "b", "c")), PLAIN, forgetful())
        made = greatest_typed(road, ("a", "b", "c"))
        self.assertEqual(made, self.told(road, ("a", "b", "c")))
        self.assertEqual(made, (("a", "b"), ("a", "c"), ("b", "c")))
        self.assertEqual(greatest_typed(road, ("a", "b", "c", "g")), (("a", "b", "g"), ("a", "c", "g"), ("b", "c", "g")))

    def test_errors(self):
        for road in no_roads() + [LONG]:
            for signs in ((), None, tuple("#$01234")):
                with self.assertRaises(InvalidRoad):
                    greatest_typed(road, signs)
        for signs in no_sign_tuples():
            with self.assertRaises(InvalidText):
                greatest_typed(ROAD, signs)
        for many in range(7, 16):
            with self.assertRaises(TooMany) as held:
                greatest_typed(ROAD, tuple("#$0123:_abcdefg")[:many])
            self.assertEqual(held.exception.limit, 6)
        self.assertEqual(greatest_typed(ROAD, tuple("#$0123")), (tuple("#0123"),))


def forgetful():
    """A cleaner that drops what comes behind an "a", a "b" and a "c" that stand in this order."""
    first = ({("a", None): ("a", 1)}, 0, "")
    second = ({("b", None): ("b", 2)}, 1, "")
    third = ({("c", None): ("", 2)}, 2, "")
    return Cleaner((first, second, third))


class Errors(unittest.TestCase):
    def test_roads(self):
        for road in no_roads() + [LONG]:
            for typed in ((), ("a",), None, ("b", "a")):
                for function in (edits_pass, edits_paper):
                    with self.assertRaises(InvalidRoad):
                        function(road, typed)
                with self.assertRaises(InvalidRoad):
                    is_edits_paper(road, typed, None)

    def test_typed_signs(self):
        for typed in no_sign_tuples():
            for function in (edits_pass, edits_paper):
                with self.assertRaises(InvalidText):
                    function(ROAD, typed)
            for value in (None, ("pass", ()), ("fail", "", ())):
                with self.assertRaises(InvalidText):
                    is_edits_paper(ROAD, typed, value)

    def test_roads_with_holes(self):
        # A hole that may be empty, and one that may not.
        for low in (0, 1):
            dress = Dress((({}, 0, (("hole", "x"),)),), {"x": Hole((("_",), low, 2))})
            self.assertIs(edits_pass((dropping(("_",)), dress, dropping(("_",))), ("a",)), True)
            self.assertIs(edits_pass((dropping(("_",)), dress, KEEP), ("a",)), False)
        self.assertGreater(len(standings(ROAD)), 20)
        self.assertIs(TWO.is_dressing("", None), False)
