"""Dressings: by fillings, judged, and their texts (0.4, 0.10, stage 3)."""

import itertools
import random
import unittest

from cleandress.dress.dresses import Dress, dressed_text, plain_dress
from cleandress.dress.holes import Hole
from cleandress.errors import InvalidFilling, InvalidNumber, InvalidOperation, InvalidText
from tests.chosen import FEW, chosen_dress
from tests.examples import PAD, PLAIN, STAMP
from tests.oracle import all_texts
from tests.values import every_value, no_numbers, no_texts, short

OWN = (("own",),)
BIT = Hole((("0", "1"), 1, 1))
STAR = Hole((("a",), 0, None))
# A dress with two states: a sign "a" leads to the second one, and what is there leads back.
STATES = (
    ({"a": ((("own",), ("hole", "x")), 1), "b": (OWN, 0), "c": ((), 0)}, 0, (("fixed", "e"),)),
    ({"a": (OWN, 0), "b": ((("hole", "y"), ("own",), ("fixed", "_")), 1)}, 0, (("hole", "y"), ("hole", "y"))),
)
TWO = Dress(STATES, {"x": STAR, "y": BIT}, opening=(("hole", "x"), ("fixed", "#")))


def told_rows(dress, text):
    """The rows of a text, straight from what the dress tells of itself."""
    rows = [(dress.opening, "")]
    state = 0
    for sign in text:
        moves, other, _ = dress.states[state]
        pattern, state = moves.get(sign, (OWN, other))
        rows.append((pattern, sign))
    return rows + [(dress.states[state][2], "")]


def told_names(dress, text):
    return tuple(part[1] for pattern, _ in told_rows(dress, text) for part in pattern if part[0] == "hole")


def told_dressing(dress, text, fillings):
    left = list(fillings)
    rows = []
    for pattern, sign in told_rows(dress, text):
        row = []
        for part in pattern:
            row.append(("filled", left.pop(0)) if part[0] == "hole" else ("own", sign) if part[0] == "own" else part)
        rows.append(tuple(row))
    return tuple(rows)


def told_dressings(dress, text, many):
    fillings = [list(dress[name].fillings(many)) for name in told_names(dress, text)]
    return [told_dressing(dress, text, row) for row in itertools.product(*fillings)]


class ByFillings(unittest.TestCase):
    def test_plain_signs(self):
        self.assertEqual(TWO.plain("abcab_ba"), (2, 5, 6))
        self.assertEqual(TWO.plain(""), ())
        self.assertEqual(PLAIN.plain("#$0_g"), (0, 1, 2, 3, 4))
        self.assertEqual(STAMP.plain("$$"), ())
        # The pattern alone makes a sign plain, whether a move has it or not, and wherever it leads.
        dress = Dress((({"a": (OWN, 1), "b": ((("own",), ("fixed", "c")), 0)}, 0, ()), ({}, 1, ())))
        self.assertEqual((dress.plain("ab"), dress.plain("ba"), dress.plain("bb"), dress.plain("cb")), ((0, 1), (1,), (), (0,)))

    def test_holes_of(self):
        self.assertEqual(TWO.holes_of(""), ("x",))
        self.assertEqual(TWO.holes_of("a"), ("x", "x", "y", "y"))
        self.assertEqual(TWO.holes_of("aba"), ("x", "x", "y"))
        self.assertEqual((PLAIN.holes_of("abc"), STAMP.holes_of("a$b$"), PAD.holes_of("$")), ((), ("who", "who"), ("pad",)))

    def test_dressed(self):
        dressing = TWO.dressed("ab", ("aa", "", "1", "0", "1"))
        rows = ((("filled", "aa"), ("fixed", "#")), (("own", "a"), ("filled", "")))
        rows = rows + ((("filled", "1"), ("own", "b"), ("fixed", "_")), (("filled", "0"), ("filled", "1")))
        self.assertEqual(dressing, rows)
        self.assertEqual(dressed_text(dressing), "aa#a1b_01")
        self.assertEqual(TWO.dressed("c", ("",)), ((("filled", ""), ("fixed", "#")), (), (("fixed", "e"),)))
        self.assertEqual(PLAIN.dressed("", ()), ((), ()))

    def test_long_fillings(self):
        self.assertEqual(PAD.dressed("", ("_" * 5000,)), ((), (("filled", "_" * 5000),)))

    def test_against_what_the_dress_tells(self):
        chance = random.Random(11)
        for _ in range(60):
            dress = chosen_dress(chance, states=3, moves=3)
            for text in all_texts(FEW, 2):
                self.assertEqual(dress.holes_of(text), told_names(dress, text))
                plain = tuple(at for at, (pattern, _) in enumerate(told_rows(dress, text)[1:-1]) if pattern == OWN)
                self.assertEqual(dress.plain(text), plain)
                if len(told_names(dress, text)) <= 4:
                    made = list(dress.dressings(text, many=1))
                    self.assertEqual(made, told_dressings(dress, text, 1))
                    for dressing in made[:5]:
                        fillings = tuple(piece[1] for row in dressing for piece in row if piece[0] == "filled")
                        self.assertEqual(dress.dressed(text, fillings), dressing)

    def test_errors_of_fillings(self):
        for fillings in every_value() + [[], ["", ""], {"a": 0}]:
            if not isinstance(fillings, tuple):
                with self.assertRaises(InvalidOperation):
                    TWO.dressed("a", fillings)
        right = ("", "a", "0", "1")
        self.assertEqual(TWO.dressed("a", right), told_dressing(TWO, "a", right))
        for index in range(4):
            for value in every_value() + ["b", "aab", "00", ["0"], ("a",)]:
                fillings = right[:index] + (value,) + right[index + 1:]
                if isinstance(value, str) and value in TWO[("x", "x", "y", "y")[index]]:
                    self.assertEqual(TWO.dressed("a", fillings), told_dressing(TWO, "a", fillings))
                    continue
                for more in ((), ("",), (None, "a")):
                    with self.assertRaises(InvalidFilling) as held:
                        TWO.dressed("a", fillings + more)
                    self.assertEqual(held.exception.index, index)
        for many in range(4):
            with self.assertRaises(InvalidFilling) as held:
                TWO.dressed("a", right[:many])
            self.assertEqual(held.exception.index, many)
        for more in (("",), (None,), ("a", 0), (("",),)):
            with self.assertRaises(InvalidOperation):
                TWO.dressed("a", right + more)
        with self.assertRaises(InvalidOperation):
            PLAIN.dressed("a", ("",))

    def test_the_first_wrong_filling_counts(self):
        with self.assertRaises(InvalidFilling) as held:
            TWO.dressed("a", ("", "b", "2"))
        self.assertEqual(held.exception.index, 1)
        with self.assertRaises(InvalidFilling) as held:
            TWO.dressed("a", ("", "a", "2"))
        self.assertEqual(held.exception.index, 2)


class AllDressings(unittest.TestCase):
    def fillings(self, dress, text, many):
        rows = []
        for dressing in dress.dressings(text, many=many):
            rows.append(tuple(piece[1] for row in dressing for piece in row if piece[0] == "filled"))
        return rows

    def test_order(self):
        wanted = [("", "", "0", "0"), ("", "", "0", "1"), ("", "", "1", "0"), ("", "", "1", "1"), ("", "a", "0", "0")]
        made = self.fillings(TWO, "a", 1)
        self.assertEqual((made[:5], len(made)), (wanted, 16))
        self.assertEqual(made, sorted(made))
        self.assertEqual(self.fillings(PAD, "", 3), [("",), ("_",), ("__",), ("___",)])

    def test_many(self):
        two = Dress((({}, 0, (("hole", "x"), ("hole", "x"))),), {"x": Hole((("a", "b"), 0, 2))})
        for many in range(7):
            texts = [text for text in all_texts(("a", "b"), min(many, 2))]
            self.assertEqual(self.fillings(two, "", many), list(itertools.product(texts, texts)))
        self.assertEqual(self.fillings(two, "", 1), [(x, y) for x in ("", "a", "b") for y in ("", "a", "b")])
        with_default = list(two.dressings("c"))
        self.assertEqual(with_default, list(two.dressings("c", many=1)))

    def test_holes_that_cannot_be_filled_so_shortly(self):
        long = Dress((({"a": ((("hole", "x"),), 0)}, 0, (("hole", "y"),)),), {"x": Hole((("a",), 2, 3)), "y": STAR})
        self.assertEqual((list(long.dressings("a", many=1)), len(list(long.dressings("b", many=1)))), ([], 2))
        self.assertEqual(self.fillings(long, "a", 2), [("aa", ""), ("aa", "a"), ("aa", "aa")])
        self.assertEqual(self.fillings(PLAIN, "ab", 0), [()])
        self.assertEqual(list(STAMP.dressings("", many=6)), [((), ())])
        bits = Dress((({}, 0, (("hole", "y"),)),), {"y": BIT})
        self.assertEqual(list(bits.dressings("", many=0)), [])

    def test_runs_that_share_signs(self):
        hole = Hole((("a", "b"), 0, 2), (("a",), 0, None), (("b",), 0, 1))
        dress = Dress((({}, 0, (("hole", "x"),)),), {"x": hole})
        for many in range(7):
            self.assertEqual(self.fillings(dress, "", many), [(text,) for text in hole.fillings(many)])

    def test_lazily_for_long_texts(self):
        every = Hole((tuple("#$0123:_abcdefg"), 0, None), (("a", "b"), 0, None))
        dress = Dress((({"a": ((("hole", "x"), ("own",), ("hole", "x")), 0)}, 0, ()),), {"x": every})
        dressings = dress.dressings("a" * 2000, many=6)
        made = list(itertools.islice(dressings, 20))
        self.assertEqual([dressed_text(dressing) for dressing in made[:3]], ["a" * 2000, "a" * 2000 + "#", "a" * 2000 + "$"])
        self.assertEqual(dressed_text(made[16])[-3:], "a##")
        self.assertTrue(all(dress.is_dressing("a" * 2000, dressing) for dressing in made))

    def test_two_generators_side_by_side(self):
        one, other = TWO.dressings("a", many=2), TWO.dressings("a", many=2)
        alone = list(TWO.dressings("a", many=2))
        self.assertEqual(next(one), alone[0])
        self.assertEqual([next(other), next(other), next(one)], [alone[0], alone[1], alone[1]])
        self.assertEqual(list(zip(one, other)), [(row, row) for row in alone[2:]])

    def test_errors(self):
        for many in no_numbers(6) + [7, 8]:
            made = TWO.dressings("a", many=many)
            with self.assertRaises(InvalidNumber) as held:
                next(made)
            self.assertIs(held.exception.value, many)
        for many in (0, 6):
            next(PAD.dressings("a", many=many))
        for text in no_texts():
            made = TWO.dressings(text, many=True)
            with self.assertRaises(InvalidText):
                next(made)
        with self.assertRaises(TypeError):
            TWO.dressings("a", 1)


class Judged(unittest.TestCase):
    def test_right_ones(self):
        chance = random.Random(12)
        for _ in range(40):
            dress = chosen_dress(chance, states=3, moves=3)
            for text in all_texts(FEW, 2):
                for dressing in itertools.islice(dress.dressings(text, many=2), 6):
                    self.assertIs(dress.is_dressing(text, dressing), True)

    def test_fillings_of_any_length(self):
        for many in (0, 1, 2001, 50000):
            self.assertIs(PAD.is_dressing("a", ((), (("own", "a"),), (("filled", "_" * many),))), True)
            self.assertIs(PAD.is_dressing("a", ((), (("own", "a"),), (("filled", "_" * many + "a"),))), False)

    def test_texts_of_any_length(self):
        for many in (2000, 2001, 20000):
            rows = ((),) + ((("own", "a"),),) * many + ((),)
            self.assertIs(PLAIN.is_dressing("a" * many, rows), True)
            self.assertIs(PLAIN.is_dressing("a" * many, rows[1:]), False)
            self.assertIs(PLAIN.is_dressing("a" * (many - 1) + "b", rows), False)

    def test_one_change(self):
        text, right = "ab", TWO.dressed("ab", ("aa", "", "1", "0", "1"))
        self.assertIs(TWO.is_dressing(text, right), True)
        for at, row in enumerate(right):
            for changed in (row + (("fixed", ""),), row[:-1], list(row), row[::-1] if at < 3 else None, ()):
                self.assertIs(TWO.is_dressing(text, right[:at] + (changed,) + right[at + 1:]), False)
            for where, piece in enumerate(row):
                sort, told = piece
                others = [list(piece), (sort,), (sort, told, ""), (told, sort), (sort, [told]), (sort, None), (sort, told + "c")]
                others += [("typed", told), ("left", told), ("hole", told), ("own" if sort != "own" else "fixed", told)]
                others += [("filled", told)] if sort != "filled" else [("fixed", told), (sort, "b")]
                for other in others + every_value():
                    changed = right[:at] + (row[:where] + (other,) + row[where + 1:],) + right[at + 1:]
                    self.assertIs(TWO.is_dressing(text, changed), False, short(other))

    def test_other_values(self):
        right = TWO.dressed("ab", ("aa", "", "1", "0", "1"))
        for value in every_value() + [list(right), right + ((),), ((),) + right, right[1:], right[::-1], [right], (right,)]:
            self.assertIs(TWO.is_dressing("ab", value), False, short(value))
        for text in ("", "a", "ba", "aba", "abc"):
            self.assertIs(TWO.is_dressing(text, right), False)

    def test_errors(self):
        for text in every_value():
            if not (isinstance(text, str) and text in ("", "a", "#", "ab", "1", "a" * 4000)):
                with self.assertRaises(InvalidText):
                    PAD.is_dressing(text, None)
        self.assertIs(PAD.is_dressing("a" * 4000, None), False)


class TextsOfRows(unittest.TestCase):
    def test_no_dressing_is_needed(self):
        rows = ((("own", "abc"), ("fixed", "")), (), (("filled", "#" * 3000),), (("fixed", "abcabc"),) * 5)
        self.assertEqual(dressed_text(rows), "abc" + "#" * 3000 + "abcabc" * 5)
        self.assertEqual((dressed_text(()), dressed_text(((),)), dressed_text(((), ()))), ("", "", ""))

    def test_errors(self):
        pieces = [("typed", "a"), ("left", "a"), ("own",), ("own", "a", "a"), ["own", "a"], ("own", None), ("own", "h")]
        pieces += [("hole", "a"), ("Own", "a"), (None, "a"), (["own"], "a"), ("fixed", ["a"]), "ab", (), ("a", "own")]
        for piece in pieces + every_value():
            for rows in (((piece,),), ((("own", "a"), piece),), ((), (piece, ("own", "a")))):
                with self.assertRaises(InvalidOperation):
                    dressed_text(rows)
        for rows in [(value,) for value in every_value() if value != ()] + [[()], [[("own", "a")]], ([("own", "a")],)]:
            with self.assertRaises(InvalidOperation):
                dressed_text(rows)
        for value in every_value():
            if value != ():
                with self.assertRaises(InvalidOperation):
                    dressed_text(value)
        self.assertEqual(plain_dress().dressed("a", ()), ((), (("own", "a"),), ()))
