"""The examples of the document, word for word."""

import doctest
import pathlib
import unittest

from cleandress.base.signs import are_signs, texts_upto
from cleandress.dress.holes import Hole, first_beyond

STAGE_1 = '''
>>> [are_signs(("#", "a")), are_signs("ab"), list(texts_upto(("a", "b"), 1))]
[True, False, ['', 'a', 'b']]
'''

STAGE_2 = '''
>>> code = Hole((("0", "1"), 1, 2), (("a",), 0, None))
>>> ["01aaa" in code, "a" in code, code.shortest(), code.count(2), list(code.fillings(1))]
[True, False, '0', 6, ['0', '1']]
>>> [first_beyond(code, Hole((("0", "1"), 1, 3))), code.barred(("0", "a")) == Hole((("1",), 1, 2)), str(code), list(code)[1]]
['0a', True, 'hole of 2 runs', (('a',), 0, None)]
'''


class Examples(unittest.TestCase):
    def follow(self, text, names):
        example = doctest.DocTestParser().get_doctest(text, names, "document", None, 0)
        told = []
        result = doctest.DocTestRunner(verbose=False).run(example, out=told.append)
        self.assertEqual(result.failed, 0, "".join(told))
        self.assertEqual(result.attempted, text.count(">>>"))

    def test_stage_1(self):
        self.follow(STAGE_1, {"are_signs": are_signs, "texts_upto": texts_upto})

    def test_stage_2(self):
        self.follow(STAGE_2, {"Hole": Hole, "first_beyond": first_beyond})

    def test_readme(self):
        readme = pathlib.Path(__file__).resolve().parent.parent / "README.md"
        blocks = [block for block in readme.read_text("utf-8").split("```\n") if ">>>" in block]
        self.assertTrue(blocks)
        for block in blocks:
            self.follow(block, {})
