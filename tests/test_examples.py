"""The examples of the document, word for word."""

import doctest
import pathlib
import unittest

from cleandress.base.signs import are_signs, texts_upto
from cleandress.clean.cleaners import Cleaner, dropping, only_with, plain_cleaner, trimming
from cleandress.clean.making import cleaner_for, read_back
from cleandress.dress.dresses import Dress, dressed_text, plain_dress
from cleandress.dress.holes import Hole, first_beyond
from cleandress.house.histories import is_stirring_history, lived, nothing_stirs, roads_of
from cleandress.house.house import House
from cleandress.house.lines import Lines, fits, idle_lines, path_classes
from cleandress.judge.edits import edited_text, edits_pass, greatest_typed, is_edit, is_edits_paper, wanted_text
from cleandress.judge.readable import is_readable, is_readable_paper, readable_paper
from cleandress.judge.silent import is_silent, silent_paper
from cleandress.judge.still import is_still, is_still_paper, settles, still_paper
from cleandress.text.formats import read_cleaner, write_cleaner, write_dress, write_history
from cleandress.use.greatest import greatest_signs, least_bars, stirred_with
from cleandress.walk.roads import along
from cleandress.walk.standings import first_standings, lag_behind, steps_at
from tests.examples import KEEP, PAD, PLAIN, STAMP, TEXT, TRIM, UNSTAMP

STAGE_1 = '''
>>> [are_signs(("#", "a")), are_signs("ab"), list(texts_upto(("a", "b"), 1))]
[True, False, ['', 'a', 'b']]
'''

STAGE_2 = '''
>>> code = Hole((("0", "1"), 1, 2), (("a",), 0, None))
>>> ["01aaa" in code, "a" in code, code.shortest(), code.count(2), list(code.fillings(1))]
[True, False, '0', 6, ['0', '1']]
>>> [first_beyond(code, Hole((("0", "1"), 1, 3))), code.barred(("0", "a")) == Hole((("1",), 1, 2)), str(code), list(code)[1]]
['0a', True, 'hole of 2 runs', (('a',), 0, None)]
'''

STAGE_3 = '''
>>> one = STAMP.dressed("a$", ("ba",))
>>> [one, dressed_text(one), STAMP.is_dressing("a$", one), STAMP.makes("a$", "a$:"), STAMP.plain("a$b")]
[((), (('own', 'a'),), (('own', '$'), ('filled', 'ba'), ('fixed', ':')), ()), 'a$ba:', True, True, (0, 2)]
>>> [[dressed_text(row) for row in PAD.dressings("a", many=2)], STAMP.holes_of("$$")]
[['a', 'a_', 'a__'], ('who', 'who')]
'''

STAGE_4 = '''
>>> [UNSTAMP("a$ba:b"), TRIM("_a__"), TRIM.views("a_"), TRIM.walk("a_"), only_with("#")("a")]
['a$b', '_a', (1, 0, 0), ((0, ''), (0, 'a'), (0, 'a')), None]
>>> [trimming(("_",))("a_b_"), dropping(("_",))("a_b_"), KEEP.views_that_come(), str(TRIM)]
['a_b', 'ab', (0,), 'cleaner of 1 states, 2 views']
'''

STAGE_5 = '''
>>> road = (KEEP, STAMP, UNSTAMP)
>>> [along(road, "$", (STAMP.dressed("$", ("a",)),)), first_standings(road)]
[('$', '$', '$a:', '$'), (((0, 0), (0, ''), (0, 0, ())),)]
>>> steps_at(road, (("end", 0), (0, "$"), (0, 0, ())))
(('$', '', (('end', 0), (0, ''), (0, 0, (('own', '$'), ('hole', 'who', 0, 0), ('fixed', ':'))))),)
>>> [len(first_standings((TRIM, PAD, TRIM))), lag_behind(("a", ""), "b", "ab"), lag_behind(("a", ""), "", "b")]
[4, ('', ''), None]
'''

STAGE_6 = '''
>>> [is_still((KEEP, STAMP, UNSTAMP)), is_still((TRIM, PAD, TRIM)), is_still((KEEP, PAD, TRIM)), settles(PAD, TRIM)]
[True, True, False, True]
>>> [still_paper((KEEP, PAD, TRIM))[:2], is_still_paper((KEEP, PAD, TRIM), ("stirred", "a_", (PAD.dressed("a_", ("_",)),)))]
[('stirred', '_'), True]
'''

STAGE_7 = '''
>>> [is_silent((KEEP, PAD, TRIM)), is_silent((KEEP, PAD, KEEP)), silent_paper((KEEP, PAD, KEEP))[:2]]
[True, False, ('tells', '')]
'''

STAGE_8 = '''
>>> road, edit = (KEEP, STAMP, UNSTAMP), ((), (("typed", "$"), ("own", "a")), ())
>>> [edits_pass(road, (":", "a")), edits_pass(road, ("$",)), greatest_typed(road, ("$", ":", "a"))]
[True, False, ((':', 'a'),)]
>>> [is_edits_paper(road, ("$",), ("fail", "a", edit)), edited_text(edit), wanted_text("a", edit), is_edit(STAMP, "a", ("b",), edit)]
[True, '$a', '$a', False]
'''

STAGE_9 = '''
>>> [is_readable(STAMP), is_readable(PAD), readable_paper(PAD)[0], read_back(STAMP, "a$ba:"), read_back(STAMP, "$")]
[True, False, 'mixed', 'a$', None]
>>> [cleaner_for(STAMP)("$:b$a:"), cleaner_for(STAMP)("a$"), is_readable_paper(PAD, ("mixed", "a", "a_", "a__"))]
['$b$', None, True]
'''

STAGE_10 = '''
>>> [greatest_signs((KEEP, PAD, TRIM), ("_", "a")), stirred_with((KEEP, PAD, TRIM), "_a"), greatest_signs((KEEP, PAD, KEEP), ("a",))]
[(('a',),), None, ()]
>>> half = Cleaner((({("$", None): ("$", 1)}, 0, ""), ({("a", None): ("", 1), (":", None): ("", 0)}, 0, "")))
>>> [least_bars((KEEP, STAMP, half), (("who", "a"), ("who", "b"))), least_bars((KEEP, STAMP, UNSTAMP), (("who", "a"),))]
[((('who', 'b'),),), ((),)]
'''

STAGE_11 = '''
>>> lines = Lines(("*", PAD, TRIM), ("a*", STAMP, UNSTAMP))
>>> [lines.number_of("ab"), lines.number_of("b"), lines.dress_of("b") == PAD, fits("a?*", "ab"), str(lines)]
[1, 0, True, True, 'lines for 2 patterns']
>>> [path_classes((lines,)), path_classes((lines, Lines(("?", PAD, TRIM)))), idle_lines(Lines(("a", PAD, TRIM), ("*", PAD, TRIM)))]
[{'#': (0,), 'a': (1,)}, {'#': (0, 0), 'a': (1, 0), '##': (0, None), 'a#': (1, None)}, (0,)]
'''

STAGE_12 = '''
>>> house = House({"old": Lines(("*", PAD, TRIM)), "new": Lines()}, "old")
>>> [house.put("b", "a_"), house.take("b", ("__",)), house.copies, house.use("new"), house.store("b"), house.stored]
['a', 'a__', {'b': 'a__'}, None, True, {'b': 'a__'}]
>>> [house.undo(many=2), house.book, house.copies, house.redo(), house.book, str(house)]
[2, 'old', {'b': 'a__'}, 3, 'new', 'house of 1 texts, 1 copies']
'''

STAGE_13 = '''
>>> books = {"old": Lines(("*", PAD, TRIM), ("a*", STAMP, UNSTAMP))}
>>> [nothing_stirs(books, "old"), nothing_stirs({"one": Lines(("*", STAMP, UNSTAMP))}, "one")]
[False, True]
>>> is_stirring_history(books, "old", (("put", "a", "_"), ("move", "a", "b"), ("take", "b", ("",)), ("store", "b")))
True
>>> [lived(books, "old", (("put", "a", "$b"),)).stored, len(roads_of(books))]
[{'a': '$'}, 4]
'''

STAGE_14 = r'''
>>> write_dress(PAD).split("\n")
['hole pad =_ 0 -', 'opening', 'state 0', 'closing fill pad']
>>> write_cleaner(TRIM).split("\n")
['look 1', 'from =_ 0', 'look 1', 'firsts 0 0', 'write 0 =', 'on =_ 0 0 =']
>>> [write_history((("put", "b", "a_"), ("store", "b"))), read_cleaner(write_cleaner(TRIM)) == TRIM]
['put =b =a_\nstore =b', True]
'''


class Examples(unittest.TestCase):
    def follow(self, text, names):
        example = doctest.DocTestParser().get_doctest(text, names, "document", None, 0)
        told = []
        result = doctest.DocTestRunner(verbose=False).run(example, out=told.append)
        self.assertEqual(result.failed, 0, "".join(told))
        self.assertEqual(result.attempted, text.count(">>>"))

    def follow_stage(self, text):
        names = {name: value for name, value in globals().items() if not name.startswith("_")}
        self.follow(text, names)

    def test_stage_1(self):
        self.follow(STAGE_1, {"are_signs": are_signs, "texts_upto": texts_upto})

    def test_stage_2(self):
        self.follow(STAGE_2, {"Hole": Hole, "first_beyond": first_beyond})

    def test_values(self):
        names = {function.__name__: function for function in (Hole, Dress, Cleaner, plain_dress, plain_cleaner)}
        self.follow(TEXT, names)
        values = {"PLAIN": PLAIN, "KEEP": KEEP, "STAMP": STAMP, "UNSTAMP": UNSTAMP, "PAD": PAD, "TRIM": TRIM}
        parser = doctest.DocTestParser()
        told = dict(names)
        for example in parser.get_examples(TEXT):
            exec(example.source, told)
        for name, value in values.items():
            self.assertEqual(told[name], value)

    def test_stages_3_to_14(self):
        stages = (STAGE_3, STAGE_4, STAGE_5, STAGE_6, STAGE_7, STAGE_8, STAGE_9, STAGE_10, STAGE_11, STAGE_12, STAGE_13, STAGE_14)
        for text in stages:
            self.follow_stage(text)

    def test_readme(self):
        readme = pathlib.Path(__file__).resolve().parent.parent / "README.md"
        blocks = [block for block in readme.read_text("utf-8").split("```\n") if ">>>" in block]
        self.assertGreater(len(blocks), 2)
        self.follow("".join(blocks), {})
