"""Greatest sets of signs, least sets of bars, and dressings that stir a text (0.4, 0.21, 10.1, stage 10)."""

import itertools
import random
import time
import unittest

from cleandress.clean.cleaners import Cleaner, dropping, only_with
from cleandress.clean.making import cleaner_for
from cleandress.dress.dresses import Dress
from cleandress.dress.holes import Hole
from cleandress.errors import InvalidOperation, InvalidRoad, InvalidText, TooMany
from cleandress.judge.still import is_still
from cleandress.use import greatest as module
from cleandress.use.greatest import greatest_signs, least_bars, stirred_with
from cleandress.walk.courses import narrow_course
from cleandress.walk.graphs import RoadRules, graph_of, road_gain
from cleandress.walk.roads import comes_back
from tests.chosen import FEW, chosen_road, chosen_roads, seeing_roads
from tests.examples import KEEP, PAD, PLAIN, STAMP, TRIM, UNSTAMP
from tests.large import STILL_4000, STILL_4001, STIRRED_4000, STIRRED_4001
from tests.oracle import all_texts
from tests.test_roads import NEVER, no_roads
from tests.values import every_value, no_sign_tuples, no_texts
from tests.walks import comes_to_last, walks_from

HALF = Cleaner((({("$", None): ("$", 1)}, 0, ""), ({("a", None): ("", 1), (":", None): ("", 0)}, 0, "")))
SEVEN = tuple("#$0123:")


def sets_of(members):
    return [found for many in range(len(members) + 1) for found in itertools.combinations(members, many)]


def told_greatest(good):
    """The greatest ones of some sets."""
    return tuple(sorted(found for found in good if not any(set(found) < set(other) for other in good)))


def narrowed(road, signs):
    """A road ahead of which only texts of some signs are let through."""
    letting = Cleaner((({}, 0, ""),), look=(({sign: 0 for sign in signs}, 1), ({}, 1)), firsts=(0, None))
    return (letting, PLAIN, *road) if len(road) == 3 else None


def stirs(road, signs, length=3, many=2):
    """Whether some short walk with a text of these signs does not come back."""
    for text in all_texts(signs, length):
        for _, told in walks_from(road, text, many):
            if comes_to_last(road, told) and told[-1] != told[-3]:
                return True
    return False


class Interface(unittest.TestCase):
    def test_defined_there(self):
        for value in (greatest_signs, least_bars, stirred_with):
            self.assertEqual(value.__module__, module.__name__)


class GreatestSigns(unittest.TestCase):
    def test_by_hand(self):
        self.assertEqual(greatest_signs((KEEP, PAD, TRIM), ("_", "a")), (("a",),))
        self.assertEqual(greatest_signs((KEEP, PAD, KEEP), ("a",)), ())
        self.assertEqual(greatest_signs((KEEP, PLAIN, KEEP), ("a", "b")), (("a", "b"),))
        self.assertEqual(greatest_signs((KEEP, STAMP, UNSTAMP), tuple("$:a")), (("$", ":", "a"),))
        # Without any sign there is the empty text alone.
        self.assertEqual(greatest_signs((KEEP, PLAIN, KEEP), ()), ((),))
        self.assertEqual(greatest_signs((KEEP, PAD, TRIM), ()), ((),))
        self.assertEqual(greatest_signs((KEEP, PAD, TRIM), ("_",)), ((),))
        self.assertEqual(greatest_signs((KEEP, PAD, KEEP), ()), ())

    def test_all_greatest_ones(self):
        # "a" and "b" beside one another are exchanged, each alone is not.
        swap = Cleaner((({("a", None): ("a", 1), ("b", None): ("b", 2)}, 0, ""), ({("b", None): ("a", 1)}, 1, ""),
                        ({("a", None): ("b", 2)}, 2, "")))
        self.assertEqual(greatest_signs((KEEP, PLAIN, swap), ("_", "a", "b")), (("_", "a"), ("_", "b")))
        self.assertEqual(greatest_signs((KEEP, PLAIN, swap), ("a", "b")), (("a",), ("b",)))

    def test_first_cleaners(self):
        # What is refused or dropped ahead stirs nothing.
        self.assertEqual(greatest_signs((NEVER, PAD, KEEP), ("_", "a")), (("_", "a"),))
        self.assertEqual(greatest_signs((only_with("b"), PAD, TRIM), ("_", "a")), (("_", "a"),))
        self.assertEqual(greatest_signs((only_with("b"), PAD, TRIM), ("_", "a", "b")), (("_", "a"), ("a", "b")))
        self.assertEqual(greatest_signs((dropping(("_",)), PAD, TRIM), ("_", "a")), (("_", "a"),))
        self.assertEqual(greatest_signs((TRIM, PAD, TRIM), ("_", "a")), (("_", "a"),))
        self.assertEqual(greatest_signs((TRIM, PAD, only_with("a")), ("_", "a")), ())

    def test_roads_of_five(self):
        self.assertEqual(greatest_signs((KEEP, PAD, TRIM, PAD, TRIM), ("_", "a")), (("_", "a"),))
        self.assertEqual(greatest_signs((KEEP, PLAIN, KEEP, PAD, TRIM), ("_", "a")), (("a",),))
        self.assertEqual(greatest_signs((KEEP, PAD, KEEP, PAD, TRIM), ("_", "a")), ())
        self.assertEqual(greatest_signs((KEEP, STAMP, KEEP, PLAIN, dropping((":",))), ("$", "_", "a")), (("_", "a"),))

    def test_sets_tried_one_by_one(self):
        found = []
        for road in chosen_roads(101, 60) + seeing_roads(102, 30) + chosen_roads(103, 12, 5):
            try:
                told = greatest_signs(road, FEW)
            except TooMany:
                continue
            good = []
            for signs in sets_of(FEW):
                within = any(set(signs) <= set(one) for one in told)
                # What is good must come back in all short walks; what is not is shown by a road that lets only these through.
                if within:
                    self.assertFalse(stirs(road, signs, 2 if len(road) == 5 else 3, 1 if len(road) == 5 else 2))
                if len(road) == 3:
                    long = narrowed(road, signs)
                    try:
                        self.assertIs(self.is_still_behind(road, long), within)
                    except TooMany:
                        pass
                if within:
                    good.append(signs)
            self.assertEqual(told, told_greatest(good))
            found.append(len(told))
        self.assertGreater(len([many for many in found if many == 0]), 10)
        self.assertGreater(len([many for many in found if many > 0]), 10)

    def is_still_behind(self, road, long):
        """Whether the road of three is still where its first cleaner gets what the longer one lets through."""
        # What the middle cleaner of the longer road writes is what the first cleaner of the road writes.
        return is_still((long[0], PLAIN, *road))

    def test_six_and_seven(self):
        self.assertEqual(greatest_signs((KEEP, PAD, TRIM), tuple("#$_abc")), (tuple("#$abc"),))
        for road in ((KEEP, PAD, TRIM), STILL_4001):
            with self.assertRaises(TooMany) as held:
                greatest_signs(road, SEVEN)
            self.assertEqual(held.exception.limit, 6)

    def test_limits(self):
        # With these signs alone fewer standings come.
        begin = time.perf_counter()
        self.assertEqual(greatest_signs(STILL_4001, ("a",)), (("a",),))
        self.assertEqual(greatest_signs(STILL_4000, tuple("#$0123")), (tuple("#$0123"),))
        with self.assertRaises(TooMany) as held:
            greatest_signs(widest_road(), ("0", "a", "b", "c"))
        self.assertEqual(held.exception.limit, 4000)
        self.assertEqual(greatest_signs(widest_road(), ("0",)), (("0",),))
        for signs in (("0", "a", "b"), ("0", "a", "c")):
            course = narrow_course(widest_road(), signs)
            self.assertLess(len(graph_of(RoadRules(course, road_gain), None).found), 4001)
            self.assertEqual(greatest_signs(widest_road(), signs), (signs,))
        self.assertLess(time.perf_counter() - begin, 15)

    def test_errors_in_their_order(self):
        for value in no_roads():
            with self.assertRaises(InvalidRoad):
                greatest_signs(value, ("a",))
            with self.assertRaises(InvalidRoad):
                greatest_signs(value, None)
        for value in no_sign_tuples():
            if value != ():
                with self.assertRaises(InvalidText):
                    greatest_signs((KEEP, PAD, TRIM), value)
        for value in (SEVEN[::-1], SEVEN + SEVEN, SEVEN + ("h",), list(SEVEN)):
            with self.assertRaises(InvalidText):
                greatest_signs(STILL_4001, value)


def widest_road():
    """A road on which many standings come if it begins with all of "a", "b" and "c", and fewer otherwise."""
    hole = Hole(*[(tuple("#$"), 3, 3)] * 4)
    part, own = ("hole", "x"), ("own",)
    rows = tuple([({"a": ((own, part, part), (at + 1) % 4), "b": ((part, own, part), (at + 2) % 4), "c": ((part, part, own), at)}, at, ())
                  for at in range(4)])
    look = tuple([({"#": (at + 1) % 3, "$": at}, (at + 2) % 3) for at in range(3)])
    writer = tuple([({("#", None): ("", (at + 1) % 4), ("$", None): ("", at), ("a", None): ("a", (at + 2) % 4)}, at, "") for at in range(4)])
    return KEEP, Dress(rows, {"x": hole}), Cleaner(writer, look=look)


def barred_dress(dress, bars):
    """The dress with barred holes; None if a hole has no filling left."""
    holes = {}
    for name, hole in dress.holes.items():
        signs = tuple(sorted(set(sign for told, sign in bars if told == name)))
        runs = []
        for own, low, high in hole:
            left = tuple(sign for sign in own if sign not in signs)
            if left:
                runs.append((left, low, high))
            elif low:
                return None
        holes[name] = runs
    empty = [name for name, runs in holes.items() if not runs]
    states = tuple(({sign: (cut(pattern, empty), state) for sign, (pattern, state) in moves.items()}, other, cut(closing, empty))
                   for moves, other, closing in dress.states)
    left = {name: Hole(*runs) for name, runs in holes.items() if runs}
    return Dress(states, left, opening=cut(dress.opening, empty))


def cut(pattern, names):
    return tuple(part for part in pattern if part[0] != "hole" or part[1] not in names)


def told_bars(road, pairs):
    """The least sets of bars, by roads with barred holes."""
    good = []
    for bars in sets_of(pairs):
        made = tuple(barred_dress(part, bars) if at % 2 else part for at, part in enumerate(road))
        if None not in made and is_still(made):
            good.append(bars)
    return tuple(sorted(found for found in good if not any(set(other) < set(found) for other in good)))


class LeastBars(unittest.TestCase):
    def test_by_hand(self):
        self.assertEqual(least_bars((KEEP, STAMP, HALF), (("who", "a"), ("who", "b"))), ((("who", "b"),),))
        self.assertEqual(least_bars((KEEP, STAMP, UNSTAMP), (("who", "a"),)), ((),))
        self.assertEqual(least_bars((KEEP, STAMP, HALF), (("who", "a"),)), ())
        self.assertEqual(least_bars((KEEP, STAMP, HALF), ()), ())
        self.assertEqual(least_bars((KEEP, STAMP, UNSTAMP), ()), ((),))
        # Signs that the hole has not make no difference.
        self.assertEqual(least_bars((KEEP, STAMP, HALF), (("who", "#"), ("who", "b"))), ((("who", "b"),),))

    def test_the_empty_filling_alone(self):
        # Without blanks nothing is put in.
        self.assertEqual(least_bars((KEEP, PAD, KEEP), (("pad", "_"),)), ((("pad", "_"),),))
        two = Dress((({}, 0, (("hole", "x"), ("hole", "y"))),), {"x": Hole((("a",), 0, 2), (("b",), 0, None)), "y": Hole((("_",), 0, 1))})
        self.assertEqual(least_bars((KEEP, two, KEEP), (("x", "a"), ("x", "b"), ("y", "_"))), ((("x", "a"), ("x", "b"), ("y", "_")),))
        self.assertEqual(least_bars((KEEP, two, dropping(("b",))), (("x", "a"), ("x", "b"), ("y", "_"))), ())
        self.assertEqual(least_bars((dropping(("b",)), two, dropping(("b",))), (("x", "a"), ("x", "b"), ("y", "_"))),
                         ((("x", "a"), ("y", "_")),))

    def test_possible_ones_alone(self):
        # A hole that must have a sign keeps one, also if it is in no pattern.
        one = Dress((({}, 0, (("hole", "x"),)),), {"x": Hole((("a", "b"), 1, 1))})
        self.assertEqual(least_bars((dropping(("a",)), one, dropping(("a",))), (("x", "a"), ("x", "b"))), ((("x", "b"),),))
        self.assertEqual(least_bars((dropping(("a",)), one, dropping(("a",))), (("x", "a"),)), ())
        self.assertEqual(least_bars((KEEP, one, KEEP), (("x", "a"), ("x", "b"))), ())
        idle = Dress((({}, 0, (("hole", "x"),)),), {"x": Hole((("_",), 0, 1)), "y": Hole((("_",), 0, 1), (("a",), 1, 1))})
        self.assertEqual(least_bars((KEEP, idle, KEEP), (("x", "_"), ("y", "_"))), ((("x", "_"),),))
        self.assertEqual(least_bars((KEEP, idle, KEEP), (("x", "_"), ("y", "a"))), ((("x", "_"),),))
        road = (KEEP, idle, KEEP, Dress((({}, 0, ()),), {"x": Hole((("_",), 1, 1))}), KEEP)
        self.assertEqual(least_bars(road, (("x", "_"),)), ((),))
        road = (KEEP, PLAIN, KEEP, idle, KEEP)
        self.assertEqual(least_bars(road, (("x", "_"),)), ((("x", "_"),),))
        # The first dress has the name, too, in no pattern, and would have no filling left.
        road = (KEEP, Dress((({}, 0, ()),), {"x": Hole((("_",), 1, 1))}), KEEP, idle, KEEP)
        self.assertEqual(least_bars(road, (("x", "_"),)), ())

    def test_names_like_signs(self):
        # The bar of the hole "a" leaves the signs of the text, and fixed ones, as they are.
        dress = Dress((({}, 0, (("fixed", "a"), ("hole", "a"))),), {"a": Hole((("a", "b"), 0, None))})
        self.assertEqual(least_bars((KEEP, dress, KEEP), (("a", "a"), ("a", "b"))), ())
        drop = Cleaner((({("a", 0): ("", 0)}, 0, ""),), look=(({}, 1), ({}, 1)))
        self.assertEqual(least_bars((KEEP, dress, drop), (("a", "a"), ("a", "b"))), ((("a", "a"), ("a", "b")),))

    def test_one_name_in_two_dresses(self):
        # The bar of the name counts for both dresses.
        other = Dress((({}, 0, (("hole", "pad"), ("fixed", "#"))),), {"pad": Hole((("_", "a"), 0, None))})
        drop = Cleaner((({("#", 0): ("", 0)}, 0, ""),), look=(({}, 1), ({}, 1)))
        road = (KEEP, PAD, KEEP, other, drop)
        self.assertEqual(least_bars(road, (("pad", "_"), ("pad", "a"))), ((("pad", "_"), ("pad", "a")),))
        road = (KEEP, other, drop, PAD, TRIM)
        self.assertEqual(least_bars(road, (("pad", "_"), ("pad", "a"))), ())
        road = (TRIM, other, drop, PAD, TRIM)
        self.assertEqual(least_bars(road, (("pad", "_"), ("pad", "a"))), ((("pad", "_"),),))

    def test_two_least_sets(self):
        # What is wrong is a "b" behind an "a": either can be barred.
        dress = Dress((({}, 0, (("hole", "x"), ("hole", "y"))),), {"x": Hole((("a",), 0, None)), "y": Hole((("b",), 0, None))})
        drop = dropping(("a", "b"))
        last = Cleaner((({("a", None): ("", 1), ("b", None): ("", 0)}, 0, ""), ({("a", None): ("", 1), ("b", None): ("#", 1)}, 1, "")))
        self.assertEqual(least_bars((drop, dress, last), (("x", "a"), ("y", "b"))), ((("x", "a"),), (("y", "b"),)))
        self.assertEqual(least_bars((drop, dress, last), (("x", "a"), ("x", "b"), ("y", "_"), ("y", "b"))), ((("x", "a"),), (("y", "b"),)))
        # With a third hole either of the first ones and this one.
        three = dress.states[0][2] + (("hole", "z"),)
        dress = Dress((({}, 0, three),), {**dress.holes, "z": Hole((("_",), 0, 1))})
        told = least_bars((drop, dress, last), (("x", "a"), ("y", "b"), ("z", "_")))
        self.assertEqual(told, ((("x", "a"), ("z", "_")), (("y", "b"), ("z", "_"))))

    def test_sets_tried_one_by_one(self):
        found = []
        chance = random.Random(7)
        while len(found) < 250:
            road = chosen_road(chance, chance.choice([3, 3, 3, 5]))
            if chance.random() < 0.7:
                road = self.nearly_still_road(chance)
            names = sorted(set(name for dress in road[1::2] for name in dress.holes))
            pairs = [(name, sign) for name in names for sign in FEW]
            pairs = tuple(sorted(chance.sample(pairs, min(len(pairs), chance.randint(1, 5)))))
            try:
                told = least_bars(road, pairs)
            except TooMany:
                continue
            self.assertEqual(told, told_bars(road, pairs))
            found.append(told)
        self.assertGreater(len([told for told in found if told == ()]), 30)
        self.assertGreater(len([told for told in found if told == ((),)]), 30)
        self.assertGreater(len([told for told in found if told and told != ((),)]), 30)

    def nearly_still_road(self, chance):
        """A road whose cleaners drop some signs, and whose dress puts in holes alone."""
        signs = chance.choice([("a",), ("_", "a"), ("a", "b")])
        holes = {name: Hole(*[run for run in (((sign,), chance.choice([0, 0, 0, 1]), None) for sign in FEW) if chance.random() < 0.7] or [(("a",), 0, 1)])
                 for name in "xy"}
        pattern = (("own",), ("hole", "x"))
        states = (({chance.choice(FEW): (pattern, 0)}, 0, chance.choice([(), (("hole", "y"),)])),)
        return dropping(signs), Dress(states, holes), dropping(signs)

    def test_six_and_seven(self):
        pairs = tuple([("who", sign) for sign in "#$0123"])
        self.assertEqual(least_bars((KEEP, STAMP, UNSTAMP), pairs), ((),))
        for road in ((KEEP, STAMP, UNSTAMP), STILL_4001):
            name = list(road[1].holes)[0]
            with self.assertRaises(TooMany) as held:
                least_bars(road, tuple([(name, sign) for sign in SEVEN]))
            self.assertEqual(held.exception.limit, 6)

    def test_limits(self):
        begin = time.perf_counter()
        self.assertEqual(least_bars(STILL_4000, (("x", "#"),)), ((),))
        self.assertEqual(least_bars(STIRRED_4000, tuple([("x", sign) for sign in "#$0123"])), ())
        for road in (STILL_4001, STIRRED_4001):
            for pairs in ((), (("x", "#"),), (("x", "#"), ("x", "$"))):
                with self.assertRaises(TooMany) as held:
                    least_bars(road, pairs)
                self.assertEqual(held.exception.limit, 4000)
        self.assertLess(time.perf_counter() - begin, 15)

    def test_errors_in_their_order(self):
        for value in no_roads():
            with self.assertRaises(InvalidRoad):
                least_bars(value, ())
            with self.assertRaises(InvalidRoad):
                least_bars(value, None)
        for road in ((KEEP, STAMP, UNSTAMP), STILL_4001, (KEEP, PLAIN, KEEP)):
            for value in every_value():
                if value != ():
                    with self.assertRaises(InvalidOperation):
                        least_bars(road, value)
                with self.assertRaises(InvalidOperation):
                    least_bars(road, (value,))
                with self.assertRaises(InvalidOperation):
                    least_bars(road, (("who", value),) if value not in ("a", "#", "1") else (("none", value),))
                with self.assertRaises(InvalidOperation):
                    least_bars(road, ((value, "a"),))
        wrong = [(("who", "b"), ("who", "a")), (("who", "a"), ("who", "a")), [("who", "a")], (["who", "a"],), (("pad", "a"),),
                 (("who", "a", "b"),), (("who",),), (("who", "ab"),), (("who", "h"),), {("who", "a"): 0}, "who", ("who", "a")]
        wrong.append(tuple([("who", sign) for sign in SEVEN[::-1]]))
        for value in wrong:
            with self.assertRaises(InvalidOperation):
                least_bars((KEEP, STAMP, UNSTAMP), value)


class StirredWith(unittest.TestCase):
    def test_by_hand(self):
        self.assertIs(stirred_with((KEEP, PAD, TRIM), "_a"), None)
        self.assertIs(stirred_with((KEEP, PAD, TRIM), ""), None)
        for road, text in (((KEEP, PAD, TRIM), "a_"), ((KEEP, PAD, KEEP), "a"), ((KEEP, STAMP, HALF), "a$a"),
                           ((KEEP, PAD, KEEP, PAD, TRIM), "a"), ((KEEP, PLAIN, only_with("a")), "b")):
            dressings = stirred_with(road, text)
            self.assertIsInstance(dressings, tuple)
            self.assertIs(comes_back(road, text, dressings), False)

    def test_walks_that_end_earlier(self):
        self.assertIs(stirred_with((NEVER, PAD, KEEP), "a"), None)
        self.assertIs(stirred_with((only_with("b"), PAD, KEEP), "a"), None)
        self.assertIs(stirred_with((KEEP, PLAIN, only_with("b"), PAD, KEEP), "a"), None)
        self.assertIsNot(stirred_with((KEEP, PLAIN, only_with("b"), PAD, KEEP), "b"), None)

    def test_short_walks(self):
        marks = []
        for road in chosen_roads(111, 150) + seeing_roads(112, 40) + chosen_roads(113, 40, 5):
            for text in all_texts(FEW, 2):
                told = stirred_with(road, text)
                if told is not None:
                    self.assertIs(comes_back(road, text, told), False)
                else:
                    for _, row in walks_from(road, text, 2):
                        self.assertTrue(not comes_to_last(road, row) or row[-1] == row[-3])
                marks.append(told is None)
        self.assertGreater(min(marks.count(True), marks.count(False)), 500)

    def test_agrees_with_still_roads(self):
        for road in chosen_roads(114, 80):
            try:
                still = is_still(road)
            except TooMany:
                continue
            if still:
                self.assertTrue(all(stirred_with(road, text) is None for text in all_texts(FEW, 3)))

    def test_no_limit(self):
        begin = time.perf_counter()
        for road, text in ((STILL_4001, "0a1"), (STILL_4001, "0:a" * 600)):
            self.assertIs(stirred_with(road, text), None)
        for text in ("a", "0a" * 1000):
            told = stirred_with(STIRRED_4001, text)
            self.assertIs(comes_back(STIRRED_4001, text, told), False)
        self.assertLess(time.perf_counter() - begin, 15)

    def test_long_texts(self):
        begin = time.perf_counter()
        self.assertIs(stirred_with((KEEP, STAMP, UNSTAMP), "$" * 2000), None)
        self.assertIs(stirred_with((KEEP, STAMP, UNSTAMP, STAMP, UNSTAMP), "$a" * 1000), None)
        self.assertIs(stirred_with((TRIM, PAD, TRIM), "a_" * 1000), None)
        for road, text in (((KEEP, STAMP, HALF), "$" * 2000), ((KEEP, PAD, TRIM), "a" * 1999 + "_"),
                           ((KEEP, STAMP, dropping(("$",))), "a" * 1999 + "$"), ((KEEP, PAD, dropping(("a",))), "a" * 2000)):
            self.assertIs(comes_back(road, text, stirred_with(road, text)), False)
        self.assertLess(time.perf_counter() - begin, 15)

    def test_made_and_growing_cleaners(self):
        twice = Cleaner((({(sign, None): (sign * 2, 0) for sign in FEW}, 0, "ab"),))
        self.assertIs(stirred_with((twice, PAD, KEEP), "a" * 2000) is None, False)
        self.assertIs(stirred_with((twice, STAMP, UNSTAMP), "ab" * 1000), None)
        self.assertIs(stirred_with((KEEP, STAMP, cleaner_for(STAMP)), "$a" * 1000), None)

    def test_errors(self):
        for value in no_roads():
            with self.assertRaises(InvalidRoad):
                stirred_with(value, "a")
            with self.assertRaises(InvalidRoad):
                stirred_with(value, None)
        for value in no_texts():
            with self.assertRaises(InvalidText):
                stirred_with((KEEP, PAD, TRIM), value)
