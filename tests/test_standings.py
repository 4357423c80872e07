"""Standings: their form, the first ones, the steps, those that come and those that are useful (0.14 to 0.18, stage 5)."""

import unittest

from cleandress.base.signs import SIGNS
from cleandress.clean.cleaners import Cleaner, only_with
from cleandress.dress.dresses import Dress
from cleandress.dress.holes import Hole
from cleandress.errors import InvalidRoad, InvalidStanding
from cleandress.walk import standings as module
from cleandress.walk.standings import (MAX_STANDINGS, first_standings, is_standing, lag_behind, standings, steps_at,
                                       useful_standings)
from tests.chosen import FEW, chosen_roads
from tests.examples import KEEP, PAD, PLAIN, STAMP, TRIM, UNSTAMP
from tests.judges import told_useful_of
from tests.test_roads import no_roads
from tests.values import every_value, short
from tests.walks import comes_to_last, short_walks

LOOK = (({"a": 1, "b": 2}, 0), ({"a": 1}, 2), ({}, 1))
# Three views, of which the second one refuses, and two states.
SEEN = Cleaner((({("a", 1): ("#", 1), ("a", None): ("$", 0)}, 0, "0"), ({("b", None): ("12", 0)}, 1, "3")), look=LOOK, firsts=(0, None, 1))
RUNS = Hole((("a", "b"), 1, 2), (("c",), 2, None), (("d",), 0, 1))
# In the second state there is no hole.
FULL = Dress((({"a": ((("fixed", "bc"), ("own",), ("hole", "x")), 1), "b": ((), 0)}, 0, (("hole", "x"),)), ({}, 1, (("fixed", "g"),))),
             {"x": RUNS, "y": Hole((("e",), 0, None))}, opening=(("hole", "x"), ("fixed", "f")))
ROAD = (KEEP, FULL, SEEN)
FIVE = (TRIM, PAD, SEEN, FULL, SEEN)
ENDED = (("end", 0), ("end", ""))


def last_steps(queue, w=0, g=0, road=ROAD):
    """The steps of the last cleaner, as tuples (written, w, g, queue)."""
    return [(written, *standing[2]) for _, written, standing in steps_at(road, (*ENDED, (w, g, queue)))]


class Interface(unittest.TestCase):
    def test_defined_there(self):
        for value in (first_standings, is_standing, steps_at, standings, useful_standings, lag_behind):
            self.assertEqual(value.__module__, module.__name__)

    def test_constant(self):
        self.assertEqual(MAX_STANDINGS, 4000)


class Firsts(unittest.TestCase):
    def test_opening_patterns(self):
        queue = (("hole", "x", 0, 0), ("fixed", "f"))
        wanted = [((0, 0), (0, ""), (0, 0, queue)), ((0, 0), (0, ""), ("refused", 1, queue)), ((0, 0), (0, ""), (1, 2, queue))]
        self.assertEqual(first_standings(ROAD), tuple(sorted(wanted, key=repr)))

    def test_refused_is_for_the_last_cleaner_alone(self):
        made = first_standings(FIVE)
        self.assertEqual(len(made), 2 * 2 * 3)
        self.assertEqual(made, tuple(sorted(made, key=repr)))
        self.assertEqual(sorted(set(standing[2][:2] for standing in made)), [(0, 0), (1, 2)])
        self.assertEqual(sorted(set(standing[4][:2] for standing in made), key=repr), [("refused", 1), (0, 0), (1, 2)])
        self.assertEqual(set(standing[1] for standing in made), {(0, "")})
        self.assertEqual(set(standing[2][2] for standing in made), {()})
        self.assertEqual(len(first_standings((SEEN, PLAIN, KEEP))), 2)
        never = Cleaner((({}, 0, ""),), firsts=(None,))
        self.assertEqual((first_standings((never, PLAIN, KEEP)), standings((never, PLAIN, KEEP))), ((), ()))
        self.assertEqual(first_standings((KEEP, PLAIN, never)), (((0, 0), (0, ""), ("refused", 0, ())),))

    def test_guesses_that_are_never_views(self):
        odd = Cleaner((({}, 0, ""),), look=(({}, 0), ({}, 1), ({}, 1)))
        self.assertEqual(odd.views_that_come(), (0,))
        self.assertEqual([standing[2][1] for standing in first_standings((KEEP, PLAIN, odd))], [0, 1, 2])
        self.assertEqual(len(useful_standings((KEEP, PLAIN, odd))), len(standings((KEEP, PLAIN, KEEP))))


class Steps(unittest.TestCase):
    def test_the_first_cleaner(self):
        steps = steps_at((SEEN, PLAIN, KEEP), ((0, 1), (0, ""), (0, 0, ())))
        # By each sign the look comes to 1 from other guesses; none leads from there to the end, as 1 is not 0.
        wanted = []
        for sign in SIGNS:
            for guess, (moves, other) in enumerate(LOOK):
                if moves.get(sign, other) == 1:
                    written, w = {("a", 1): ("#", 1), ("a", 0): ("$", 0), ("a", 2): ("$", 0)}.get((sign, guess), (sign, 0))
                    wanted.append(("", "", ((w, guess), (0, written), (0, 0, ()))))
        self.assertEqual(steps, tuple(wanted))
        self.assertEqual([step[2][0] for step in steps if step[2][1][1] in ("#", "$")], [(0, 2), (0, 2), (0, 0), (1, 1), (0, 2)])

    def test_the_first_cleaner_ends(self):
        self.assertEqual(steps_at((SEEN, PLAIN, KEEP), ((1, 0), (0, ""), (0, 0, ())))[-1], ("", "", (("end", 0), (0, "3"), (0, 0, ()))))
        for g in (1, 2):
            for _, _, standing in steps_at((SEEN, PLAIN, KEEP), ((1, g), (0, ""), (0, 0, ()))):
                self.assertNotEqual(standing[0][0], "end")

    def test_a_dress_reads(self):
        before, after = (0, 0), (0, 1, ())
        items = (("fixed", "bc"), ("own", "a"), ("hole", "x", 0, 0))
        self.assertEqual(steps_at(ROAD, (before, (0, "ab"), after)), (("a", "", (before, (1, "b"), (0, 1, items))),))
        self.assertEqual(steps_at(ROAD, (before, (0, "b"), after)), (("b", "", (before, (0, ""), (0, 1, ()))),))
        self.assertEqual(steps_at(ROAD, (before, (1, "bg"), after)), (("b", "", (before, (1, "g"), (0, 1, (("own", "b"),)))),))

    def test_a_dress_ends(self):
        ended = ("end", 0)
        self.assertEqual(steps_at(ROAD, (ended, (0, ""), (0, 1, ()))), (("", "", (ended, ("end", ""), (0, 1, (("hole", "x", 0, 0),)))),))
        self.assertEqual(steps_at(ROAD, (ended, (1, ""), (0, 1, ()))), (("", "", (ended, ("end", ""), (0, 1, (("fixed", "g"),)))),))

    def test_fixed_and_own(self):
        left = (("fixed", "b"), ("own", "c"))
        self.assertEqual(last_steps((("fixed", "ab"), ("own", "c")), 0, 1), [("$", 0, 0, left), ("#", 1, 1, left), ("$", 0, 2, left)])
        self.assertEqual(last_steps((("fixed", "b"), ("own", "c")), 1, 2), [("12", 0, 0, (("own", "c"),)), ("12", 0, 1, (("own", "c"),))])
        self.assertEqual(last_steps((("own", "c"),), 0, 0), [("c", 0, 0, ())])
        self.assertEqual(last_steps((("own", "b"),), 0, 0), [])

    def test_holes(self):
        # Below low signs alone; at high nothing but going on; between them both, signs first.
        self.assertEqual(last_steps((("hole", "x", 0, 0),), 1, 2), [("12", 0, 0, (("hole", "x", 0, 1),)), ("12", 0, 1, (("hole", "x", 0, 1),))])
        both = last_steps((("hole", "x", 0, 1), ("own", "g")), 0, 1)
        wanted = [("$", 0, 0, 2), ("#", 1, 1, 2), ("$", 0, 2, 2), ("b", 0, 2, 2)]
        self.assertEqual(both[:-1], [(written, w, g, (("hole", "x", 0, count), ("own", "g"))) for written, w, g, count in wanted])
        self.assertEqual(both[-1], ("", 0, 1, (("hole", "x", 1, 0), ("own", "g"))))
        self.assertEqual(last_steps((("hole", "x", 0, 2),), 0, 1), [("", 0, 1, (("hole", "x", 1, 0),))])
        # Without high the count stays at low.
        self.assertEqual([row[3] for row in last_steps((("hole", "x", 1, 0),), 0, 0)], [(("hole", "x", 1, 1),)])
        self.assertEqual([row[3] for row in last_steps((("hole", "x", 1, 1),), 0, 0)], [(("hole", "x", 1, 2),)])
        self.assertEqual([row[3] for row in last_steps((("hole", "x", 1, 2),), 0, 0)], [(("hole", "x", 1, 2),), (("hole", "x", 2, 0),)])
        # Behind the last run the hole is gone.
        self.assertEqual(last_steps((("hole", "x", 2, 0), ("own", "c")), 0, 0), [("d", 0, 0, (("hole", "x", 2, 1), ("own", "c"))), ("", 0, 0, (("own", "c"),))])
        self.assertEqual(last_steps((("hole", "x", 2, 1),), 0, 0), [("", 0, 0, ())])
        self.assertEqual([row[3] for row in last_steps((("hole", "y", 0, 0),), 0, 0)], [(("hole", "y", 0, 0),), ()])

    def test_ends(self):
        self.assertEqual([last_steps((), 0, 0), last_steps((), 1, 0)], [[("0", "end", 0, ())], [("3", "end", 0, ())]])
        self.assertEqual([last_steps((), 0, 1), last_steps((), 1, 2), last_steps((), "end", 0)], [[], [], []])
        self.assertEqual(steps_at(ROAD, (*ENDED, ("none", 0, ()))), ())

    def test_refused(self):
        self.assertEqual(last_steps((("own", "b"),), "refused", 2), [("", "refused", 0, ()), ("", "refused", 1, ())])
        self.assertEqual(last_steps((("hole", "x", 0, 1),), "refused", 0)[-1], ("", "refused", 0, (("hole", "x", 1, 0),)))
        self.assertEqual([last_steps((), "refused", 0), last_steps((), "refused", 1)], [[("", "none", 0, ())], []])

    def test_five_parts(self):
        ahead = (("end", 0), ("end", ""))
        middle = (*ahead, (1, 2, (("own", "b"),)), (0, ""), (0, 0, ()))
        wanted = [("", "", (*ahead, (0, 0, ()), (0, "12"), (0, 0, ()))), ("", "", (*ahead, (0, 1, ()), (0, "12"), (0, 0, ())))]
        self.assertEqual(steps_at((KEEP, STAMP, SEEN, FULL, SEEN), middle), tuple(wanted))
        # What the first dress reads is not told, what the last one reads is.
        road = (KEEP, STAMP, KEEP, PLAIN, KEEP)
        start = ((0, 0), (0, "a"), (0, 0, ()), (0, ""), (0, 0, ()))
        self.assertEqual([step[:2] for step in steps_at(road, start)], [("", "")])
        later = ((0, 0), (0, ""), (0, 0, ()), (0, "a"), (0, 0, ()))
        self.assertEqual([step[:2] for step in steps_at(road, later)], [("a", "")])
        self.assertEqual([step[:2] for step in steps_at(road, ((0, 0), (0, ""), (0, 0, ()), (0, ""), (0, 0, (("own", "a"),))))], [("", "a")])

    def test_which_part_is_due(self):
        items = (("own", "a"),)
        road = (KEEP, PLAIN, KEEP, PLAIN, KEEP)
        for last in range(1, 5):
            # All queues up to this one have something in them; the last one that has is due.
            queues = ["a" if at % 2 else items for at in range(5)]
            places = [(0, 0)] + [(0, queues[at]) if at % 2 else (0, 0, queues[at]) for at in range(1, last + 1)]
            places += [(0, "") if at % 2 else (0, 0, ()) for at in range(last + 1, 5)]
            for _, _, standing in steps_at(road, tuple(places)):
                self.assertEqual([at for at in range(5) if standing[at] != places[at]][0], last)
        ends = [("end", 0), ("end", ""), ("end", 0, ()), ("end", ""), ("end", 0, ())]
        starts = [(0, 0), (0, ""), (0, 0, ()), (0, ""), (0, 0, ())]
        for first in range(5):
            steps = steps_at(road, tuple(ends[:first] + starts[first:]))
            self.assertEqual(steps[-1][2], tuple(ends[:first + 1] + starts[first + 1:]))
            self.assertEqual(len(steps), 1 if first else 16)
        self.assertEqual(steps_at(road, tuple(ends)), ())

    def test_what_does_not_come(self):
        # The dress goes on though the cleaner behind it has ended: what comes is no standing by its form.
        odd = (("end", 0), (1, "a"), ("end", 2, ()))
        self.assertIs(is_standing(ROAD, odd), True)
        steps = steps_at(ROAD, odd)
        self.assertEqual(steps, (("a", "", (("end", 0), (1, ""), ("end", 2, (("own", "a"),)))),))
        self.assertIs(is_standing(ROAD, steps[0][2]), False)
        late = ((0, 0), ("end", ""), (0, 0, ()))
        steps = steps_at(ROAD, late)
        self.assertEqual((len(steps), steps[0], steps[-1][2][1]), (16, ("", "", ((0, 0), ("end", "#"), (0, 0, ()))), ("end", "")))
        self.assertEqual([is_standing(ROAD, step[2]) for step in steps], [False] * 15 + [True])
        # KEEP refuses nothing, but can be refused by its form.
        self.assertEqual(last_steps((("own", "a"),), "refused", 0, (KEEP, PLAIN, KEEP)), [("", "refused", 0, ())])
        long = (("fixed", "a" * 3000),)
        self.assertEqual(last_steps(long, 0, 0, (KEEP, PLAIN, KEEP)), [("a", 0, 0, (("fixed", "a" * 2999),))])

    def test_wrong_standings(self):
        for value in no_standings() + every_value():
            with self.assertRaises(InvalidStanding):
                steps_at(ROAD, value)

    def test_steps_of_all_that_come(self):
        for parts in (3, 5):
            for road in chosen_roads(51, 20, parts):
                for standing in standings(road)[:200]:
                    self.assertIs(is_standing(road, standing), True)
                    for _, _, reached in steps_at(road, standing):
                        self.assertIs(is_standing(road, reached), True)


def no_standings():
    """Values that are no standings of ROAD by their form."""
    first, dress, last = (0, 0), (0, ""), (0, 0, ())
    right = (first, dress, last)
    wrong = [right[:2], right + (last,), list(right), (right,), (first, dress), (dress, first, last)]
    wrong += [(place, dress, last) for place in wrong_places([(1, 0), (0, 1), (-1, 0), ("refused", 0), ("none", 0), (0, 0, ()), ("End", 0)])]
    for place in wrong_places([(2, ""), (-1, ""), ("end", "a"), (0, "h"), (0, ()), (0, None), ("refused", ""), (0, "", ""), ("", "")]):
        wrong.append((first, place, last))
    places = [(2, 0, ()), (-1, 0, ()), (0, 3, ()), (0, -1, ()), (0, 0), (0, 0, "", ()), ("end", 3, ()), ("Refused", 0, ())]
    places += [(word, 0, (("own", "a"),)) for word in ("end", "none")] + [(0, 0, ""), (0, 0, []), (0, 0, {}), (None, 0, ())]
    for place in wrong_places(places):
        wrong.append((first, dress, place))
    for item in no_items():
        wrong += [(first, dress, (0, 0, (item,))), (first, dress, (0, 0, (("own", "a"), item))), (first, dress, ("refused", 0, (item,)))]
    return wrong


def wrong_places(places):
    others = [(True, 0), (0, False), (False, 0, ()), (0, True, ()), (True, ""), (None, 0), (0, None), ("0", 0), ([0], 0)]
    return places + [list(place) for place in places] + others + every_value()


def no_items():
    items = [("fixed", ""), ("fixed", "h"), ("fixed",), ("fixed", "a", "b"), ["fixed", "a"], ("own",), ("own", ""), ("own", "ab")]
    items += [("own", "h"), ("own", None), ("hole", "x"), ("hole", "x", 0), ("hole", "x", 0, 0, 0), ("hole", "z", 0, 0)]
    items += [("hole", "X", 0, 0), ("hole", ["x"], 0, 0), ("hole", None, 0, 0), ("hole", "x", 3, 0), ("hole", "x", -1, 0)]
    items += [("hole", "x", 0, 3), ("hole", "x", 0, -1), ("hole", "x", 1, 3), ("hole", "x", 2, 2), ("hole", "y", 0, 1)]
    items += [("hole", "x", True, 0), ("hole", "x", 0, True), ("hole", "x", False, 0), ("hole", "x", 0, None), ("hole", "x", "0", 0)]
    items += [("Hole", "x", 0, 0), ("own", "x", 0, 0), (None, "x", 0, 0), ("ahead", "a"), ("behind",), ("filled", "a"), ("typed", "a"), ("hole", ("x",), 0, 0), ("hole", {"x": 0}, 0, 0)]
    return items + every_value()


class Forms(unittest.TestCase):
    def test_right_ones(self):
        firsts = [(0, 0), ("end", 0)]
        dresses = [(0, ""), (1, "abc"), (0, "g" * 3000), ("end", "")]
        items = [("fixed", "abcd"), ("own", "g"), ("hole", "x", 0, 2), ("hole", "x", 1, 2), ("hole", "x", 2, 1), ("hole", "y", 0, 0)]
        lasts = [(0, 0, ()), (1, 2, tuple(items)), ("end", 1, ()), ("refused", 2, (("own", "a"),)), ("none", 2, ()), ("refused", 0, ())]
        for first in firsts:
            for dress in dresses:
                for last in lasts:
                    self.assertIs(is_standing(ROAD, (first, dress, last)), True)

    def test_all_counts(self):
        for run, (_, low, high) in enumerate(RUNS.runs):
            for count in range(-1, 5):
                value = ((0, 0), (0, ""), (0, 0, (("hole", "x", run, count),)))
                self.assertIs(is_standing(ROAD, value), 0 <= count <= (low if high is None else high))

    def test_wrong_ones(self):
        for value in no_standings() + every_value():
            self.assertIs(is_standing(ROAD, value), False, short(value))

    def test_five_parts(self):
        right = ((0, 0), (0, ""), (0, 0, ()), (0, ""), (0, 0, ()))
        self.assertIs(is_standing(FIVE, right), True)
        self.assertIs(is_standing(FIVE, right[:3]), False)
        self.assertIs(is_standing(ROAD, right), False)
        for word in ("refused", "none"):
            self.assertIs(is_standing(FIVE, (*right[:4], (word, 0, ()))), True)
            self.assertIs(is_standing(FIVE, (*right[:2], (word, 0, ()), *right[3:])), False)
            self.assertIs(is_standing(FIVE, ((word, 0), *right[1:])), False)
        # Each queue has the holes of the dress ahead of it.
        for at, name in ((2, "pad"), (4, "x")):
            for other in ("pad", "x"):
                place = (0, 0, (("hole", other, 0, 0),))
                self.assertIs(is_standing(FIVE, (*right[:at], place, *right[at + 1:])), name == other)


class Coming(unittest.TestCase):
    def test_closure(self):
        for parts in (3, 5):
            for road in chosen_roads(52, 30, parts):
                made = standings(road)
                found = list(first_standings(road))
                seen = set(found)
                for standing in found:
                    for _, _, reached in steps_at(road, standing):
                        if reached not in seen:
                            seen.add(reached)
                            found.append(reached)
                self.assertEqual(made, tuple(sorted(found, key=repr)))
                self.assertEqual(useful_standings(road), told_useful(road, made))

    def test_what_walks_do(self):
        # What comes along a road is what some row of steps reads and writes.
        for parts in (3, 5):
            for road in chosen_roads(53, 15, parts):
                for text, dressings, told in short_walks(road, FEW, 2, 1):
                    if comes_to_last(road, told):
                        self.assertIs(is_told(road, told[-3], told[-1]), True)

    def test_what_no_walk_does(self):
        for dress, cleaner in ((PLAIN, KEEP), (STAMP, UNSTAMP), (PAD, TRIM), (PAD, KEEP), (FULL, SEEN), (PAD, only_with("_"))):
            road = (KEEP, dress, cleaner)
            walks = short_walks(road, ("_", "a", "$", ":"), 2, 2)
            done = set((told[1], told[3]) for _, _, told in walks)
            for handed in sorted(set(told[1] for _, _, told in walks)):
                for result in ["", "a", "$", "_", ":", "a_", "$$", "a$", None]:
                    if result is None or len(result) <= len(handed):
                        self.assertIs(is_told(road, handed, result), (handed, result) in done, (dress, handed, result))


def told_useful(road, made):
    useful = told_useful_of({standing: [step[2] for step in steps_at(road, standing)] for standing in made})
    return tuple(sorted(useful, key=repr))


def is_told(road, handed, result):
    """Whether steps lead from a first standing to an end that read one text and write the other one, or refuse it."""
    waiting = [(standing, 0, 0) for standing in first_standings(road)]
    seen = set(waiting)
    while waiting:
        standing, read, written = waiting.pop()
        ended = all(place[0] in ("end", "none") for place in standing)
        if ended and read == len(handed):
            if standing[-1][0] == "none" and result is None:
                return True
            if standing[-1][0] == "end" and result is not None and written == len(result):
                return True
        for sign, text, reached in steps_at(road, standing):
            if handed.startswith(sign, read) and (result or "").startswith(text, written):
                item = (reached, read + len(sign), written + len(text))
                if item not in seen:
                    seen.add(item)
                    waiting.append(item)
    return False


class Errors(unittest.TestCase):
    def test_roads(self):
        for road in no_roads():
            for function in (first_standings, standings, useful_standings):
                with self.assertRaises(InvalidRoad):
                    function(road)
            for value in (None, (), ((0, 0), (0, ""), (0, 0, ()))):
                with self.assertRaises(InvalidRoad):
                    is_standing(road, value)
                with self.assertRaises(InvalidRoad):
                    steps_at(road, value)

    def test_nothing_changes(self):
        standing = ((0, 0), (0, "ab"), (0, 1, (("hole", "x", 0, 0),)))
        self.assertEqual(steps_at(ROAD, standing), steps_at(ROAD, standing))
        self.assertEqual(standing, ((0, 0), (0, "ab"), (0, 1, (("hole", "x", 0, 0),))))
