"""Paths, path patterns, and lines for them (0.2, 0.4, 11.1, 11.2, stage 11)."""

import fnmatch
import itertools
import random
import re
import time
import unittest

from cleandress.base.signs import SIGNS
from cleandress.clean.cleaners import plain_cleaner
from cleandress.clean.making import cleaner_for
from cleandress.dress.dresses import plain_dress
from cleandress.errors import InvalidLines, InvalidNumber, InvalidOperation, InvalidText, TooMany
from cleandress.house import lines as module
from cleandress.house.fitting import Fitting, places_of
from cleandress.house.lines import MAX_LINES, MAX_PATH, Lines, first_paths, fits, idle_lines, is_path, is_path_pattern, path_classes
from tests.examples import KEEP, PAD, PLAIN, STAMP, TRIM, UNSTAMP
from tests.oracle import all_texts
from tests.values import every_value, no_numbers, short

ONE = ("*", PAD, TRIM)
TWO = ("a*", STAMP, UNSTAMP)
BOTH = Lines(ONE, TWO)


def lines_for(*patterns):
    return Lines(*[(pattern, PAD, TRIM) for pattern in patterns])


TUPLES_2000 = (lines_for("b*", "bb?*?b??*?a"), lines_for("*b?*a??????b"))
TUPLES_2001 = (lines_for("b*a", "bb?*?b??*?a"), lines_for("*b?*a??????b"))
WIDE_LINES = TUPLES_2001[0] + TUPLES_2001[1]


def told_fits(pattern, path):
    """Whether a pattern fits, by Python's own patterns."""
    parts = {"*": ".*", "?": "."}
    return re.fullmatch("".join(parts.get(character, re.escape(character)) for character in pattern), path) is not None


def chosen_pattern(chance, characters="ab*?", most=5):
    return "".join(chance.choice(characters) for _ in range(chance.randint(1, most)))


def told_number(lines, path):
    found = [number for number, line in enumerate(lines) if told_fits(line[0], path)]
    return found[-1] if found else None


def no_paths():
    values = [value for value in every_value() if value not in ("a", "#", "ab", "1")]
    return values + ["a" * 13, "_" * 2001, "a*", "?", "h", "ab ", "A"]


def no_patterns():
    values = [value for value in every_value() if value not in ("a", "#", "ab", "1")]
    return values + ["*" * 13, "a" * 13, "h*", "*?%", "[a]", "a b", "A*", "*\n"]


class Interface(unittest.TestCase):
    def test_defined_there(self):
        for value in (is_path, is_path_pattern, fits, Lines, path_classes, idle_lines):
            self.assertEqual(value.__module__, module.__name__)
        self.assertEqual((MAX_LINES, MAX_PATH), (8, 12))
        for name in ("of", "number_of", "dress_of", "cleaner_of", "__getitem__", "__contains__", "__len__", "__iter__", "__add__", "__eq__",
                     "__str__"):
            self.assertIn(name, Lines.__dict__)


class Paths(unittest.TestCase):
    def test_paths(self):
        for path in ("a", "_", "a" * 12, SIGNS[:12], SIGNS[3:]):
            self.assertIs(is_path(path), True)
        for value in no_paths() + [""]:
            self.assertIs(is_path(value), False, short(value))

    def test_patterns(self):
        for pattern in ("a", "*", "?", "*" * 12, "?" * 12, "a*b?", SIGNS[:12], "**"):
            self.assertIs(is_path_pattern(pattern), True)
        for value in no_patterns() + [""]:
            self.assertIs(is_path_pattern(value), False, short(value))


class Fits(unittest.TestCase):
    def test_by_hand(self):
        rows = [("a?*", "ab", True), ("a?*", "a", False), ("*", "a", True), ("?", "a", True), ("?", "ab", False), ("a", "a", True),
                ("a", "b", False), ("**", "a", True), ("*a*", "bab", True), ("*a*", "b", False), ("a*a", "a", False), ("a*a", "aa", True),
                ("?*?", "a", False), ("*?*?*", "ab", True), ("a*", "a", True), ("*a", "a", True), ("*?", "#", True), ("#$*", "#$", True)]
        for pattern, path, wanted in rows:
            self.assertIs(fits(pattern, path), wanted, (pattern, path))

    def test_all_short_patterns_and_paths(self):
        paths = all_texts("ab", 4)[1:]
        for many in range(1, 5):
            for pattern in itertools.product("ab*?", repeat=many):
                pattern = "".join(pattern)
                for path in paths:
                    self.assertIs(fits(pattern, path), told_fits(pattern, path), (pattern, path))

    def test_long_ones(self):
        chance = random.Random(3)
        marks = []
        for _ in range(3000):
            pattern = chosen_pattern(chance, "ab**??", 12)
            path = "".join(chance.choice("ab") for _ in range(chance.randint(1, 12)))
            marks.append(fits(pattern, path))
            self.assertIs(marks[-1], told_fits(pattern, path))
            self.assertIs(marks[-1], fnmatch.fnmatchcase(path, pattern))
        self.assertGreater(min(marks.count(True), marks.count(False)), 300)
        self.assertIs(fits("*" * 12, "a" * 12), True)
        self.assertIs(fits("?" * 12, "a" * 12), True)
        self.assertIs(fits("?" * 12, "a" * 11), False)

    def test_errors_in_their_order(self):
        for value in no_patterns():
            for path in ("a", None, ""):
                with self.assertRaises(InvalidText):
                    fits(value, path)
        for value in no_paths():
            with self.assertRaises(InvalidText):
                fits("*", value)


class TheLines(unittest.TestCase):
    def test_the_last_line_counts(self):
        self.assertEqual([BOTH.number_of(path) for path in ("ab", "b", "a", "#")], [1, 0, 1, 0])
        self.assertEqual(Lines(TWO, ONE).number_of("ab"), 1)
        self.assertEqual(Lines(ONE, ONE, ONE).number_of("ab"), 2)
        self.assertIs(Lines(TWO).number_of("b"), None)
        self.assertIs(Lines().number_of("b"), None)
        self.assertEqual((BOTH.dress_of("b"), BOTH.cleaner_of("b")), (PAD, TRIM))
        self.assertEqual((BOTH.dress_of("a"), BOTH.cleaner_of("a")), (STAMP, UNSTAMP))

    def test_where_no_line_fits(self):
        for lines in (Lines(), Lines(TWO)):
            self.assertEqual((lines.dress_of("b"), lines.cleaner_of("b")), (plain_dress(), plain_cleaner()))

    def test_chosen_lines(self):
        chance = random.Random(4)
        numbers = []
        for _ in range(300):
            lines = lines_for(*[chosen_pattern(chance) for _ in range(chance.randint(0, 8))])
            for path in all_texts("ab", 3)[1:]:
                numbers.append(lines.number_of(path))
                self.assertEqual(numbers[-1], told_number(lines, path))
        self.assertEqual(set(numbers), {None, *range(8)})

    def test_items(self):
        self.assertEqual((BOTH[0], BOTH[1], list(BOTH), len(BOTH)), (ONE, TWO, [ONE, TWO], 2))
        self.assertEqual((list(Lines()), len(Lines())), ([], 0))
        for value in no_numbers(1):
            with self.assertRaises(InvalidNumber) as held:
                BOTH[value]
            self.assertIs(held.exception.value, value)
        for value in (0, -1):
            with self.assertRaises(InvalidNumber):
                Lines()[value]

    def test_in(self):
        self.assertIn(ONE, BOTH)
        self.assertIn(("a*", STAMP, UNSTAMP), BOTH)
        self.assertNotIn(("a*", STAMP, TRIM), BOTH)
        self.assertNotIn(["a*", STAMP, UNSTAMP], BOTH)
        self.assertNotIn(ONE, Lines())
        for value in every_value():
            self.assertNotIn(value, BOTH)
            self.assertNotIn((value, PAD, TRIM), BOTH)

    def test_plus(self):
        made = Lines(ONE) + Lines(TWO)
        self.assertEqual((made, len(made)), (BOTH, 2))
        self.assertEqual(Lines() + BOTH, BOTH)
        self.assertEqual(BOTH + Lines(), BOTH)
        self.assertEqual((len(BOTH), BOTH), (2, Lines(ONE, TWO)))
        self.assertEqual(len(Lines(*[ONE] * 5) + Lines(*[ONE] * 3)), 8)
        with self.assertRaises(InvalidLines):
            Lines(*[ONE] * 5) + Lines(*[ONE] * 4)
        for value in every_value() + [ONE, (ONE,), [ONE]]:
            with self.assertRaises(InvalidOperation):
                BOTH + value
            with self.assertRaises(InvalidOperation):
                Lines(*[ONE] * 8) + value

    def test_equal(self):
        self.assertEqual(BOTH, Lines.of((ONE, TWO)))
        self.assertEqual(Lines(), Lines.of(()))
        for value in every_value() + [Lines(TWO, ONE), Lines(ONE), Lines(ONE, TWO, TWO), (ONE, TWO), [ONE, TWO]]:
            self.assertIs(BOTH == value, False)
            self.assertIs(BOTH != value, True)
        self.assertIs(BOTH != Lines(ONE, TWO), False)

    def test_str(self):
        self.assertEqual([str(Lines()), str(Lines(ONE)), str(BOTH)], ["lines for 0 patterns", "lines for 1 patterns", "lines for 2 patterns"])

    def test_up_to_eight(self):
        self.assertEqual(len(Lines(*[ONE] * 8)), 8)
        for lines in ([ONE] * 9, [ONE] * 20):
            with self.assertRaises(InvalidLines):
                Lines(*lines)
            with self.assertRaises(InvalidLines):
                Lines.of(tuple(lines))

    def test_made_cleaners_count_like_others(self):
        made = cleaner_for(STAMP)
        self.assertEqual(Lines(("a", STAMP, made)).cleaner_of("a"), made)
        self.assertIn(("a", STAMP, cleaner_for(STAMP)), Lines(("a", STAMP, made)))

    def test_wrong_lines(self):
        wrong = [("h", PAD, TRIM), ("", PAD, TRIM), ("a" * 13, PAD, TRIM), ("a", TRIM, PAD), ("a", PAD), ("a", PAD, TRIM, KEEP), ["a", PAD, TRIM],
                 ("a", PAD, None), ("a", None, TRIM), (None, PAD, TRIM), ("a", PLAIN, PLAIN), ("a", KEEP, KEEP)]
        for line in wrong + every_value():
            with self.assertRaises(InvalidLines):
                Lines(line)
            with self.assertRaises(InvalidLines):
                Lines(ONE, line)
            with self.assertRaises(InvalidLines):
                Lines.of((line,))
        for value in every_value():
            for at in range(3):
                line = ONE[:at] + (value,) + ONE[at + 1:]
                if (at, value) in [(0, "a"), (0, "#"), (0, "ab"), (0, "1"), (1, PLAIN), (2, KEEP)]:
                    self.assertEqual(len(Lines(line)), 1)
                    continue
                with self.assertRaises(InvalidLines):
                    Lines(line)
            if value != ():
                with self.assertRaises(InvalidLines):
                    Lines.of(value)
        with self.assertRaises(InvalidLines):
            Lines.of([ONE])

    def test_errors_of_paths(self):
        for value in no_paths():
            for method in (BOTH.number_of, BOTH.dress_of, BOTH.cleaner_of, Lines().number_of):
                with self.assertRaises(InvalidText):
                    method(value)

    def test_nothing_leads_into_them(self):
        lines = lines_for("a")
        lines[0][1].states[0][0]["a"] = 1
        lines[0][2].writer[0][0].clear()
        lines.dress_of("a").holes.clear()
        self.assertEqual(lines, lines_for("a"))
        with self.assertRaises(TypeError):
            lines[0] = ONE


def told_classes(many, characters, most):
    """The classes of the short paths of some signs, tried one by one."""
    found = {}
    for path in all_texts(characters, most)[1:]:
        found.setdefault(tuple(told_number(lines, path) for lines in many), path)
    return {path: numbers for numbers, path in found.items()}


def how_many_tuples(many):
    """The number of the tuples that the document counts, by what fits the beginnings of texts of up to twelve signs."""
    patterns = [line[0] for lines in many for line in lines]
    signs = sorted(set("".join(patterns)) & set(SIGNS))
    others = [sign for sign in SIGNS if sign not in signs][:1]

    def told(text):
        return tuple(tuple(n for n in range(len(pattern) + 1) if told_fits(pattern[:n], text)) for pattern in patterns)

    met = {told("")}
    level = [""]
    for _ in range(12):
        later = []
        for text in level:
            for sign in signs + others:
                # Texts with one tuple go on alike, so that one of them is enough.
                if told(text + sign) not in met:
                    met.add(told(text + sign))
                    later.append(text + sign)
        level = later
    return len(met)


class Classes(unittest.TestCase):
    def test_by_hand(self):
        self.assertEqual(path_classes((BOTH,)), {"#": (0,), "a": (1,)})
        told = path_classes((BOTH, lines_for("?")))
        self.assertEqual(list(told.items()), [("#", (0, 0)), ("a", (1, 0)), ("##", (0, None)), ("a#", (1, None))])
        self.assertEqual(path_classes((Lines(),)), {"#": (None,)})
        self.assertEqual(path_classes((Lines(), Lines())), {"#": (None, None)})
        self.assertEqual(path_classes((lines_for("a"),)), {"#": (None,), "a": (0,)})
        # No path has thirteen signs.
        self.assertEqual(path_classes((lines_for("?" * 12),)), {"#": (None,), "#" * 12: (0,)})
        self.assertEqual(path_classes((lines_for("*", "?" * 12),)), {"#": (0,), "#" * 12: (1,)})
        self.assertEqual(path_classes((lines_for("*g", "g*"), Lines())), {"#": (None, None), "g": (1, None), "#g": (0, None)})

    def test_short_paths(self):
        chance = random.Random(5)
        for _ in range(150):
            many = tuple(lines_for(*[chosen_pattern(chance, "ab*?", 3) for _ in range(chance.randint(0, 3))]) for _ in range(chance.randint(1, 3)))
            told = path_classes(many)
            wanted = told_classes(many, "#ab", 6)
            self.assertEqual(list(told.items()), list(wanted.items()))

    def test_first_paths_in_order(self):
        chance = random.Random(6)
        for _ in range(60):
            many = tuple(lines_for(*[chosen_pattern(chance, "ag_*?", 6) for _ in range(4)]) for _ in range(2))
            told = path_classes(many)
            self.assertEqual(list(told), sorted(told, key=lambda path: (len(path), path)))
            self.assertEqual(len(set(told.values())), len(told))
            for path, numbers in told.items():
                self.assertEqual(numbers, tuple(lines.number_of(path) for lines in many))

    def test_first_paths_to_places(self):
        chance = random.Random(7)
        lengths = []
        for _ in range(40):
            fitting = Fitting([chosen_pattern(chance, "ag_*?", 6) for _ in range(chance.randint(0, 4))])
            told = list(first_paths(fitting).items())
            wanted = {}
            for path in all_texts(SIGNS, 3)[1:]:
                wanted.setdefault(places_of(fitting, path), path)
            self.assertEqual([row for row in told if len(row[1]) <= 3], list(wanted.items()))
            paths = [path for _, path in told]
            self.assertEqual(paths, sorted(paths, key=lambda path: (len(path), path)))
            for places, path in told:
                self.assertEqual(places_of(fitting, path), places)
            lengths.append(len(paths[-1]))
        self.assertGreater(max(lengths), 4)
        paths = list(first_paths(Fitting(["?" * 12 + "?" * at for at in range(3)])).values())
        self.assertEqual(paths, ["#" * many for many in range(1, 13)])

    def test_returned_dicts_are_new(self):
        path_classes((BOTH,)).clear()
        self.assertEqual(len(path_classes((BOTH,))), 2)

    def test_limit_as_the_document_counts(self):
        chance = random.Random(8)
        for limit in (1, 2, 3, 5, 8, 13, 20, 40):
            for _ in range(12):
                many = tuple(lines_for(*[chosen_pattern(chance, "ab*?", 4) for _ in range(chance.randint(0, 3))]) for _ in range(2))
                module.MAX_TUPLES = limit
                try:
                    if how_many_tuples(many) > limit:
                        with self.assertRaises(TooMany):
                            path_classes(many)
                    else:
                        path_classes(many)
                finally:
                    module.MAX_TUPLES = 2000

    def test_just_so_many_and_more(self):
        begin = time.perf_counter()
        self.assertEqual((how_many_tuples(TUPLES_2000), how_many_tuples(TUPLES_2001)), (2000, 2001))
        self.assertGreater(len(path_classes(TUPLES_2000)), 1)
        with self.assertRaises(TooMany) as held:
            path_classes(TUPLES_2001)
        self.assertEqual(held.exception.limit, 2000)
        self.assertLess(time.perf_counter() - begin, 20)

    def test_twelve_signs_and_no_more(self):
        # Which tuples come with thirteen signs does not count.
        long = lines_for("a*a?" + "?" * 8)
        self.assertEqual(how_many_tuples((long,)), self.count_by_limit((long,)))
        long = lines_for("?" * 12, "*" + "a?" * 5)
        self.assertEqual(how_many_tuples((long,)), self.count_by_limit((long,)))

    def count_by_limit(self, many):
        """The least limit that is enough."""
        limit = 1
        try:
            while True:
                module.MAX_TUPLES = limit
                try:
                    path_classes(many)
                    return limit
                except TooMany:
                    limit += 1
        finally:
            module.MAX_TUPLES = 2000

    def test_errors_in_their_order(self):
        for value in every_value() + [BOTH, [BOTH], (BOTH, None), (ONE,), (BOTH, (ONE,))]:
            with self.assertRaises(InvalidLines):
                path_classes(value)
            with self.assertRaises(InvalidLines):
                path_classes((value,) if value != BOTH else ())
        with self.assertRaises(InvalidLines):
            path_classes(TUPLES_2001 + (None,))


class Idle(unittest.TestCase):
    def test_by_hand(self):
        self.assertEqual(idle_lines(lines_for("a", "*")), (0,))
        self.assertEqual(idle_lines(lines_for("*", "a")), ())
        self.assertEqual(idle_lines(Lines()), ())
        self.assertEqual(idle_lines(lines_for("a", "a", "b", "?", "b")), (0, 1, 2))
        self.assertEqual(idle_lines(lines_for("a?", "*b", "?*", "b")), (0, 1))
        # What fits only longer texts than paths are fits none.
        self.assertEqual(idle_lines(lines_for("?" * 12, "?*", "????????????")), (0,))
        self.assertEqual(idle_lines(lines_for("*" + "?" * 11, "?" * 11)), ())

    def test_chosen_lines(self):
        chance = random.Random(9)
        found = []
        for _ in range(200):
            lines = lines_for(*[chosen_pattern(chance, "ab*?", 3) for _ in range(chance.randint(0, 8))])
            used = set(told_number(lines, path) for path in all_texts("#ab", 5)[1:])
            found.append(idle_lines(lines))
            self.assertEqual(found[-1], tuple(number for number in range(len(lines)) if number not in used))
        self.assertGreater(len(set(found)), 20)

    def test_errors_in_their_order(self):
        for value in every_value() + [(BOTH,), [BOTH], ONE]:
            with self.assertRaises(InvalidLines):
                idle_lines(value)
        with self.assertRaises(TooMany) as held:
            idle_lines(WIDE_LINES)
        self.assertEqual(held.exception.limit, 2000)
