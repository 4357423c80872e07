"""Dresses that can be read, and papers that show it (0.4 to 0.6, 9.1 to 9.3, stage 9)."""

import itertools
import random
import time
import unittest

from cleandress.base.signs import SIGNS
from cleandress.dress.dresses import Dress
from cleandress.dress.holes import Hole
from cleandress.errors import InvalidDress, TooMany
from cleandress.judge import readable as module
from cleandress.judge.pairs import PairRules
from cleandress.judge.papers import rows_of
from cleandress.judge.readable import is_readable, is_readable_paper, readable_paper
from cleandress.judge.search import search_in
from cleandress.walk.graphs import graph_of
from tests.chosen import FEW, chosen_dress
from tests.examples import PAD, PLAIN, STAMP
from tests.large_dresses import MIXED_4000, MIXED_4001, PAIRS_4000, PAIRS_4001
from tests.oracle import all_texts
from tests.pairs import EVEN, all_pairs, is_pair, least_mixed, pair_steps, right_pair_rows, short_dressed, told_first
from tests.test_dressings import TWO
from tests.test_still import changes_of
from tests.values import every_value

SOME = Hole((("a", "b"), 0, None))
CODE = Hole((("0", "1"), 1, 2), (("a",), 0, 3))
# With an opening and closing patterns, holes that may be empty, signs that are not written, and four states.
EDGES = Dress((({}, 0, (("fixed", "#"), ("hole", "x"))),), {"x": SOME}, opening=(("fixed", "$"), ("hole", "x"), ("fixed", ":")))
SWALLOW = Dress((({"a": ((), 0)}, 0, ()),))
TURNED = Dress((({"a": ((), 1)}, 0, ()), ({"a": ((("own",),), 1), "b": ((), 0)}, 2, (("fixed", "a"),)), ({}, 2, (("fixed", "_"),))))
FOUR = Dress(tuple(({"a": ((("own",), ("hole", "x"), ("fixed", ":")), (at + 1) % 4)}, at, (("fixed", "#" * at + "$"),)) for at in range(3))
             + (({}, 0, ()),), {"x": Hole((("0", "1"), 1, 2))})
NAMED = Dress((({"a": ((("fixed", "a"),), 0), "b": ((("fixed", "ab"),), 0), "c": ((("fixed", "ba"),), 0)}, 0, ()),))
MARKED = Dress((({"a": ((("fixed", "#"), ("hole", "x"), ("own",)), 0), "#": ((("fixed", "##"),), 0)}, 0, ()),), {"x": CODE})
READABLE = [PLAIN, STAMP, EDGES, Dress((({}, 0, (("fixed", "#"),)),)), MARKED, FOUR]
MIXED = [PAD, SWALLOW, TURNED, TWO, NAMED, Dress((({"b": ((("fixed", "a"),), 0)}, 0, ()),))]


def no_dresses():
    return [value for value in every_value() if not isinstance(value, Dress)] + [(PLAIN,), [PLAIN], PLAIN.states]


def chosen_dresses(seed, many):
    chance = random.Random(seed)
    return [chosen_dress(chance, states=chance.choice([1, 2, 4]), moves=chance.choice([1, 2, 3])) for _ in range(many)]


class Interface(unittest.TestCase):
    def test_defined_there(self):
        for value in (is_readable, readable_paper, is_readable_paper):
            self.assertEqual(value.__module__, module.__name__)


class PairStandings(unittest.TestCase):
    def test_the_first_one(self):
        for dress in READABLE + MIXED + chosen_dresses(1, 30):
            self.assertEqual(PairRules(dress).first_ones(), [told_first(dress) * 2])
            self.assertEqual(PairRules(dress).how_many_first(), 1)
        self.assertEqual(told_first(TWO), (0, (("hole", "x", 0, 0), ("fixed", "#"))))

    def test_steps_in_order(self):
        for dress in READABLE + MIXED + chosen_dresses(2, 60):
            rules = PairRules(dress)
            for standing, steps in itertools.islice(all_pairs(dress).items(), 300):
                made = rules.steps_from(standing)
                self.assertEqual([(read, beside, reached) for reached, read, beside, _, _, _ in made], steps)
                self.assertEqual([cost for _, _, _, cost, _, _ in made], [len(read + beside) for read, beside, _ in steps])
                self.assertTrue(all(is_pair(dress, reached) and rules.knows(reached) for _, _, reached in steps))

    def test_steps_by_hand(self):
        rules = PairRules(STAMP)
        told = [(step[0], step[1], step[2]) for step in rules.steps_from((0, (), 0, ()))]
        self.assertEqual(len(told), 16)
        self.assertEqual(told[0], ((0, (("own", "#"),), 0, ()), "#", ""))
        self.assertEqual(told[-1], (("end", (), 0, ()), "", ""))
        # The second walk is due, and what begins with another sign is left out.
        told = [(step[0], step[2]) for step in rules.steps_from((0, (("own", "b"), ("fixed", ":")), 0, ()))]
        self.assertEqual(told, [((0, (("own", "b"), ("fixed", ":")), 0, (("own", "b"),)), "b"),
                                ((0, (("own", "b"), ("fixed", ":")), "end", ()), "")])
        # Both holes go on, the first one ahead; then both write.
        hole = ("hole", "who", 0, 0)
        told = [step[0] for step in rules.steps_from((0, (hole, ("fixed", ":")), 0, (hole,)))]
        self.assertEqual(told, [(0, (("fixed", ":"),), 0, (hole,)), (0, (hole, ("fixed", ":")), 0, ()),
                                (0, (hole, ("fixed", ":")), 0, (hole,)), (0, (hole, ("fixed", ":")), 0, (hole,))])
        self.assertEqual(rules.steps_from(("end", (), "end", ())), [])
        self.assertEqual(rules.steps_from(("end", (), 0, (("own", "a"),))), [])
        self.assertEqual(rules.steps_from((0, (("own", "a"), ("own", "a")), 0, (("own", "b"),))), [])

    def test_where_steps_are_left_out(self):
        # Also behind the sign that both write, and where a hole goes on.
        rules = PairRules(STAMP)
        one, other = (("fixed", "ab"),), (("own", "a"), ("own", "c"))
        self.assertEqual(rules.steps_from((0, one, 0, other)), [])
        self.assertEqual(len(rules.steps_from((0, one, 0, other[:1]))), 1)
        hole = (("hole", "who", 0, 0), ("fixed", ":"))
        self.assertEqual([step[0] for step in rules.steps_from((0, hole, 0, one))], [(0, hole, 0, (("fixed", "b"),))])

    def test_forms(self):
        values = every_value()
        for dress in (STAMP, TWO):
            rules = PairRules(dress)
            for value in values:
                for made in (value, (0, (), 0, value), (value, (), 0, ()), (0, (value,), "end", ()), (0, (("hole", value, 0, 0),), 0, ()),
                             (0, (("own", value),), 0, ()), (0, (("hole", "x", value, 0),), 0, ()), (0, (("hole", "x", 0, value),), 0, ())):
                    self.assertIs(rules.knows(made), is_pair(dress, made))
            for made in [(0, (), 0), (0, (), 0, (), 0), [0, (), 0, ()], ("end", (("own", "a"),), 0, ()), (0, (("fixed", ""),), 0, ()),
                         (2, (), 0, ()), (0, (("ahead", "a"),), 0, ()), (0, (("behind",),), 0, ())]:
                self.assertIs(rules.knows(made), is_pair(dress, made))


class Readable(unittest.TestCase):
    def test_by_hand(self):
        for dress in READABLE:
            self.assertIs(is_readable(dress), True)
        for dress in MIXED:
            self.assertIs(is_readable(dress), False)

    def test_short_texts(self):
        marks = []
        for dress in READABLE + MIXED + chosen_dresses(3, 120):
            made = short_dressed(dress, FEW, 3, 2, 20)
            if is_readable(dress):
                self.assertEqual([text for text, texts in made.items() if len(texts) > 1], [])
            marks.append((is_readable(dress), any(len(texts) > 1 for texts in made.values())))
        self.assertGreater(min(marks.count((True, False)), marks.count((False, True))), 30)

    def test_mixed_ones_are_dressed_alike(self):
        for dress in MIXED + chosen_dresses(4, 120):
            paper = readable_paper(dress)
            self.assertIs(is_readable(dress), paper[0] == "readable")
            self.assertIs(is_readable_paper(dress, paper), True)
            if paper[0] == "mixed":
                word, text, other, dressed = paper
                self.assertNotEqual(text, other)
                self.assertTrue(dress.makes(text, dressed) and dress.makes(other, dressed))

    def test_as_few_signs_as_possible(self):
        costs = []
        for dress in MIXED + chosen_dresses(5, 100):
            paper = readable_paper(dress)
            cost = len(paper[1] + paper[2]) if paper[0] == "mixed" else None
            self.assertEqual(cost, least_mixed(dress))
            if cost is not None:
                for texts in short_dressed(dress, FEW, 3, 2, 20).values():
                    for text, other in itertools.combinations(texts, 2):
                        self.assertGreaterEqual(len(text + other), cost)
                costs.append(cost)
        self.assertGreater(len(set(costs)), 3)

    def test_least_by_hand(self):
        self.assertEqual(sorted(map(len, readable_paper(PAD)[1:3])), [0, 1])
        self.assertEqual(readable_paper(SWALLOW)[3], "")
        self.assertEqual(sorted(readable_paper(NAMED)[1:3]), ["ac", "ba"])
        far = Dress((({"a": ((("fixed", "ab"),), 1), "b": ((("fixed", "a"),), 2)}, 3, ()), ({"c": ((("fixed", "cd"),), 3)}, 1, ()),
                     ({"b": ((("own",), ("fixed", "c")), 2)}, 2, ()), ({}, 3, (("fixed", "e"),))))
        paper = readable_paper(far)
        self.assertEqual(len(paper[1] + paper[2]), least_mixed(far))
        self.assertGreater(len(paper[1] + paper[2]), 3)


class Papers(unittest.TestCase):
    def test_all_that_come_have_rows(self):
        for dress in READABLE + [dress for dress in chosen_dresses(6, 60) if is_readable(dress)]:
            word, *_, rows = readable_paper(dress)
            self.assertEqual((word, sorted([row[0] for row in rows], key=repr)), ("readable", sorted(all_pairs(dress), key=repr)))
            self.assertEqual(list(rows), sorted(rows, key=repr))
            self.assertIs(right_pair_rows(dress, rows), True)

    def test_one_change(self):
        marks = []
        dresses = [dress for dress in READABLE + chosen_dresses(7, 25) if is_readable(dress) and len(all_pairs(dress)) < 120]
        for dress in dresses:
            rows = readable_paper(dress)[1]
            for changed in changes_of(rows):
                wanted = right_pair_rows(dress, changed)
                self.assertIs(is_readable_paper(dress, ("readable", changed)), wanted)
                marks.append(wanted)
        self.assertGreater(min(marks.count(True), marks.count(False)), 50)

    def with_all_that_follows(self, dress, rows, standing, lag):
        """The rows with one more, and with those of all that follow it, with the lags that come."""
        table = dict(rows)
        waiting = [(standing, lag)]
        while waiting:
            at, told = waiting.pop()
            if at in table:
                continue
            table[at] = told
            waiting += [(reached, None) for _, _, reached in pair_steps(dress, at)]
        return tuple(sorted(table.items(), key=repr))

    def test_rows_of_standings_that_do_not_come(self):
        rows = readable_paper(STAMP)[1]
        table = dict(rows)
        odd = [(0, (("fixed", "abc"),), 0, (("fixed", "abd"),)), (0, (("own", "c"),), 0, (("own", "d"),)),
               (0, (("fixed", "$$"),), "end", ()), ("end", (("fixed", "$"),), 0, (("hole", "who", 0, 0),)),
               (0, (("hole", "who", 0, 0),), "end", ()), (0, (("fixed", ":a"),), 0, (("fixed", ":"),))]
        marks = []
        for standing in odd:
            self.assertNotIn(standing, table)
            for lag in (None, EVEN, ("a", ""), ("", "a" * 3000)):
                more = self.with_all_that_follows(STAMP, rows, standing, lag)
                wanted = right_pair_rows(STAMP, more)
                self.assertIs(is_readable_paper(STAMP, ("readable", more)), wanted)
                marks.append(wanted)
                # Alone it may stand only if nothing follows that has no row.
                alone = tuple(sorted(rows + ((standing, lag),), key=repr))
                self.assertIs(is_readable_paper(STAMP, ("readable", alone)), right_pair_rows(STAMP, alone))
        self.assertGreater(min(marks.count(True), marks.count(False)), 5)

    def test_the_end(self):
        rows = readable_paper(PLAIN)[1]
        at = [standing for standing, _ in rows].index(("end", (), "end", ()))
        for lag in (None, ("a", ""), ("", "a")):
            changed = rows[:at] + ((rows[at][0], lag),) + rows[at + 1:]
            self.assertIs(is_readable_paper(PLAIN, ("readable", changed)), False)

    def test_no_table_for_mixed_ones(self):
        for dress in MIXED:
            for lag in (None, EVEN):
                rows = tuple(sorted([(standing, lag) for standing in all_pairs(dress)], key=repr))
                self.assertIs(is_readable_paper(dress, ("readable", rows)), False)
            self.assertIs(is_readable_paper(dress, ("readable", ())), False)

    def test_mixed_papers(self):
        right = ("mixed", "a", "a_", "a__")
        self.assertIs(is_readable_paper(PAD, right), True)
        self.assertIs(is_readable_paper(PAD, ("mixed", "a_", "a", "a__")), True)
        self.assertIs(is_readable_paper(PAD, ("mixed", "", "_", "_")), True)
        wrong = [("mixed", "a", "a", "a_"), ("mixed", "a", "b", "a"), ("mixed", "a", "a_", "a"), ("mixed", "a_", "a", "a"),
                 ("mixed", "a", "a_"), right + ("",), list(right), ("Mixed",) + right[1:], ("readable",) + right[1:], ("mixed", "h", "a_", "a__")]
        for paper in wrong:
            self.assertIs(is_readable_paper(PAD, paper), False)
        for dress in READABLE:
            for text, other in itertools.combinations(all_texts(FEW, 2), 2):
                for dressed in (text, other, "$:#"):
                    self.assertIs(is_readable_paper(dress, ("mixed", text, other, dressed)), False)
        for value in every_value():
            for at in (1, 2, 3):
                paper = right[:at] + (value,) + right[at + 1:]
                texts = [text for text in paper[1:] if isinstance(text, str) and set(text) <= set(SIGNS) and len(text) < 9]
                wanted = len(texts) == 3 and paper[1] != paper[2] and all(PAD.makes(text, paper[3]) for text in paper[1:3])
                self.assertIs(is_readable_paper(PAD, paper), wanted)

    def test_texts_of_any_length_in_mixed_papers(self):
        for many in (1999, 2000, 2001, 8000):
            text = "ab" * (many // 2)
            self.assertIs(is_readable_paper(PAD, ("mixed", text, text + "_", text + "__")), True)
            self.assertIs(is_readable_paper(PAD, ("mixed", text, text + "_", text)), False)
            self.assertIs(is_readable_paper(PAD, ("mixed", text + "__", text + "_", text + "__")), True)

    def test_other_values(self):
        rows = readable_paper(PLAIN)[1]
        for value in every_value() + [("readable",), ("readable", rows, ()), ["readable", rows], ("Readable", rows), rows]:
            self.assertIs(is_readable_paper(PLAIN, value), False)
        for value in every_value():
            self.assertIs(is_readable_paper(PLAIN, ("readable", value)), False)
            self.assertIs(is_readable_paper(PLAIN, ("readable", (*rows, value))), False)
            self.assertIs(is_readable_paper(PLAIN, ("readable", ((rows[0][0], value), *rows[1:]))), value is None and rows[0][1] is None)
            self.assertIs(is_readable_paper(PLAIN, ("readable", ((value, rows[0][1]), *rows[1:]))), False)


class Limits(unittest.TestCase):
    def quick(self, function, *arguments):
        begin = time.perf_counter()
        result = function(*arguments)
        self.assertLess(time.perf_counter() - begin, 15)
        return result

    def test_just_so_many(self):
        for dress, word in ((PAIRS_4000, "readable"), (MIXED_4000, "mixed")):
            self.assertEqual(len(all_pairs(dress)), 4000)
            paper = self.quick(readable_paper, dress)
            self.assertEqual(paper[0], word)
            self.assertIs(self.quick(is_readable, dress), word == "readable")
            self.assertIs(self.quick(is_readable_paper, dress, paper), True)

    def test_one_more(self):
        for dress in (PAIRS_4001, MIXED_4001):
            self.assertEqual(len(all_pairs(dress)), 4001)
            for function in (is_readable, readable_paper):
                with self.assertRaises(TooMany) as held:
                    self.quick(function, dress)
                self.assertEqual(held.exception.limit, 4000)

    def test_judges_have_no_limit(self):
        graph = graph_of(PairRules(PAIRS_4001), None)
        rows = rows_of(graph, search_in(graph))
        self.assertEqual(len(rows), 4001)
        self.assertIs(self.quick(is_readable_paper, PAIRS_4001, ("readable", rows)), True)
        self.assertIs(self.quick(is_readable_paper, PAIRS_4001, ("readable", rows[:70] + rows[71:])), False)
        path = search_in(graph_of(PairRules(MIXED_4001), None)).path
        texts = ["".join(taken for _, due, taken, _ in path if due == part) for part in range(3)]
        self.assertIs(self.quick(is_readable_paper, MIXED_4001, ("mixed", *texts)), True)


class Errors(unittest.TestCase):
    def test_no_dresses(self):
        for value in no_dresses():
            for function in (is_readable, readable_paper):
                with self.assertRaises(InvalidDress):
                    function(value)
            with self.assertRaises(InvalidDress):
                is_readable_paper(value, ("mixed", "a", "a_", "a__"))
            with self.assertRaises(InvalidDress):
                is_readable_paper(value, None)
