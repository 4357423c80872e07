"""Dresses as values, and which parts make one (0.1, 0.2, 0.4, 0.9, stage 3)."""

import unittest

from cleandress.base.names import is_name
from cleandress.dress import dresses as module
from cleandress.dress.dresses import MAX_PARTS, MAX_STATES, Dress, dressed_text, plain_dress
from cleandress.dress.holes import Hole
from cleandress.errors import DressError, InvalidDress, InvalidHole, InvalidText, UnknownName
from tests.examples import PAD, PLAIN, STAMP
from tests.values import ALL_SIGNS, every_value, no_holes, no_names, no_numbers, no_texts, short

STAR = Hole((("a",), 0, None))
CODE = Hole((("0", "1"), 1, 2), (("a",), 0, None))
OWN = (("own",),)
# Each right pattern that may stand ahead of a text or behind it, with the hole x.
EDGES = [(), (("fixed", "a"),), (("fixed", "#$0"),), (("hole", "x"),), (("hole", "x"),) * 3,
         (("fixed", "a"), ("hole", "x"), ("fixed", "abc"))]
# Each right pattern that may stand at a sign alone.
INNER = [OWN, (("fixed", "a"), ("own",)), (("own",), ("hole", "x"), ("fixed", "g")), (("hole", "x"), ("own",))]
# No patterns, whatever holes there are.
WRONG = [(("own",), ("own",)), (("own",), ("fixed", "a"), ("own",)), (("fixed", "a"),) * 4, (("own",),) * 4,
         (("fixed", ""),), (("fixed", "abca"),), (("fixed", "h"),), (("fixed", None),), (("fixed", 1),), (("fixed",),),
         (("fixed", "a", "b"),), (("own", "a"),), (("hole", "y"),), (("hole", "z", 0),), (("hole",),), (("hole", 0),),
         (("hole", None),), (("hole", ["x"]),), (("hole", ("x",)),), (("hole", {"x": STAR}),), (("filled", "x"),),
         ("own",), "own", ["own"], [("own",)], (["own"],), ("fixed", "a"), (("fixed", ("a",)),), (("Own",),), ((),),
         (("fixed", "a"), None), (None,), (("own",), 0), {("own",): 0}, (("hole", True),), (("hole", "X"),)]
# The ones among all values that are right patterns.
EMPTY = ((),)


def no_patterns():
    return WRONG + [value for value in every_value() if value not in EMPTY]


def dress_with(moves=None, other=0, closing=(), opening=(), more=()):
    return Dress((({} if moves is None else moves, other, closing), *more), {"x": STAR}, opening=opening)


class Interface(unittest.TestCase):
    def test_defined_there(self):
        for value in (Dress, plain_dress, dressed_text):
            self.assertEqual(value.__module__, module.__name__)
        names = ("states", "holes", "opening", "plain", "holes_of", "dressed", "dressings", "is_dressing", "makes")
        for name in names + ("with_hole", "__init__", "__getitem__", "__eq__", "__len__", "__str__"):
            self.assertIn(name, Dress.__dict__)

    def test_constants(self):
        self.assertEqual((MAX_STATES, MAX_PARTS), (4, 3))


class Names(unittest.TestCase):
    def test_lengths(self):
        for many in range(12):
            self.assertIs(is_name("z" * many), 1 <= many <= 8)

    def test_letters(self):
        for code in list(range(32, 127)) + [10]:
            for name in (chr(code), "a" + chr(code), chr(code) + "a", "a" + chr(code) + "b"):
                self.assertIs(is_name(name), "a" <= chr(code) <= "z", name)

    def test_other_values(self):
        for value in no_names():
            self.assertIs(is_name(value), False, short(value))


class Making(unittest.TestCase):
    def wrong(self, *args, **more):
        with self.assertRaises(InvalidDress):
            Dress(*args, **more)

    def test_plain(self):
        self.assertEqual(plain_dress(), Dress((({}, 0, ()),)))
        self.assertEqual((PLAIN.states, PLAIN.holes, PLAIN.opening), ((({}, 0, ()),), {}, ()))

    def test_how_many_states(self):
        for many in range(1, 5):
            dress = Dress(tuple([({}, many - 1, ())] * many))
            self.assertEqual((len(dress), dress.states), (many, (({}, many - 1, ()),) * many))
        for many in (0, 5, 6, 20):
            self.wrong((({}, 0, ()),) * many)

    def test_states_that_are_none(self):
        right = ({}, 0, ())
        wrong = [list(right), ({}, 0), ({}, 0, (), ()), {}, (({}, 0, ()),), (None, 0, ()), ([], 0, ()), ((), 0, ())]
        for value in every_value() + wrong:
            self.wrong((value,))
            self.wrong((right, value))
            self.wrong((value, right))
            if value != (right,):
                self.wrong(value)
        self.wrong([right])
        self.wrong({0: right})
        self.wrong(right)

    def test_other(self):
        for many in range(1, 5):
            for other in range(-2, 7):
                states = (({}, other, ()),) + (({}, 0, ()),) * (many - 1)
                if 0 <= other < many:
                    self.assertEqual(Dress(states).states[0][1], other)
                else:
                    self.wrong(states)
        for value in no_numbers(0):
            self.wrong((({}, value, ()),))
        for value in no_numbers(1):
            self.wrong((({}, 0, ()), ({}, value, ())))

    def test_states_of_moves(self):
        for many in range(1, 5):
            for state in range(-2, 7):
                states = (({"a": ((), state)}, 0, ()),) + (({}, 0, ()),) * (many - 1)
                if 0 <= state < many:
                    self.assertEqual(Dress(states).states[0][0], {"a": ((), state)})
                else:
                    self.wrong(states)
        for value in no_numbers(0):
            self.wrong((({"a": ((), value)}, 0, ()),))

    def test_signs_of_moves(self):
        every = {sign: (OWN, 0) for sign in ALL_SIGNS}
        self.assertEqual(Dress(((every, 0, ()),)).states[0][0], every)
        for key in ("", "h", "ab", "aa", 0, None, True, ("a",), (), "A", " ", ("a", None)):
            self.wrong((({key: (OWN, 0)}, 0, ()),))
            self.wrong((({"a": (OWN, 0), key: (OWN, 0)}, 0, ()),))

    def test_moves(self):
        right = (OWN, 0)
        wrong = [list(right), OWN, (OWN, 0, 0), (0, OWN), (OWN,), (right,), {OWN: 0}, ([("own",)], 0)]
        for value in every_value() + wrong:
            self.wrong((({"a": value}, 0, ()),))
            self.wrong((({"b": right, "a": value}, 0, ()),))
        for value in every_value():
            if value != {}:
                self.wrong(((value, 0, ()),))

    def test_patterns(self):
        for pattern in EDGES + INNER:
            self.assertEqual(dress_with({"a": (pattern, 0)}).states[0][0], {"a": (pattern, 0)})
        for pattern in EDGES:
            self.assertEqual(dress_with(closing=pattern).states, (({}, 0, pattern),))
            self.assertEqual(dress_with(opening=pattern).opening, pattern)

    def test_wrong_patterns(self):
        for pattern in no_patterns():
            for arguments in ({"moves": {"a": (pattern, 0)}}, {"closing": pattern}, {"opening": pattern}):
                with self.assertRaises(InvalidDress):
                    dress_with(**arguments)
                with self.assertRaises(InvalidDress):
                    dress_with(**arguments, more=(({"b": (OWN, 1)}, 1, ()),))
        for pattern in INNER:
            for arguments in ({"closing": pattern}, {"opening": pattern}):
                with self.assertRaises(InvalidDress):
                    dress_with(**arguments)

    def test_fixed_texts(self):
        for value in every_value():
            right = value in ("a", "#", "ab", "1") and isinstance(value, str)
            if right:
                self.assertEqual(dress_with(opening=(("fixed", value),)).opening, (("fixed", value),))
            else:
                with self.assertRaises(InvalidDress):
                    dress_with(opening=(("fixed", value),))
        for many in range(1, 6):
            if many <= 3:
                self.assertEqual(dress_with(closing=(("fixed", "g" * many),)).states[0][2], (("fixed", "g" * many),))
            else:
                with self.assertRaises(InvalidDress):
                    dress_with(closing=(("fixed", "g" * many),))

    def test_names_in_patterns(self):
        for value in every_value():
            with self.assertRaises(InvalidDress):
                dress_with(opening=(("hole", value),))
            with self.assertRaises(InvalidDress):
                dress_with({"a": ((("hole", "x"), ("hole", value)), 0)})

    def test_holes(self):
        for many in range(9):
            holes = {"n" + "abcdefghi"[at]: STAR for at in range(many)}
            self.assertEqual(Dress((({}, 0, ()),), holes).holes, holes)
        self.wrong((({}, 0, ()),), {"n" + "abcdefghi"[at]: STAR for at in range(9)})
        for name in ("a", "abcdefgh"):
            self.assertEqual(Dress((({}, 0, ()),), {name: CODE}).holes, {name: CODE})
        for name in no_names():
            if not isinstance(name, (list, dict)) and hashable(name):
                self.wrong((({}, 0, ()),), {name: STAR})
                self.wrong((({}, 0, ()),), {"a": STAR, name: STAR})
        for value in no_holes():
            self.wrong((({}, 0, ()),), {"x": value})
            self.wrong((({}, 0, ()),), {"y": STAR, "x": value})
        for value in every_value():
            if value is not None and value != {}:
                self.wrong((({}, 0, ()),), value)

    def test_holes_that_are_none(self):
        self.assertEqual(Dress((({}, 0, ()),), None), Dress((({}, 0, ()),), {}))
        self.assertEqual(Dress((({}, 0, ()),), None).holes, {})
        for value in (False, 0, (), "", []):
            self.wrong((({}, 0, ()),), value)

    def test_several_wrong_at_once(self):
        for value in every_value():
            self.wrong(value, value, opening=value)
        self.wrong((({"a": (OWN, True)}, "0", None),), {"X": None}, opening=[])
        self.wrong(None, {"x": 0})
        self.wrong((({}, 0, ()),), {1: STAR, "b": STAR, None: 0})

    def test_keywords(self):
        with self.assertRaises(TypeError):
            Dress((({}, 0, ()),), {}, ())


def hashable(value):
    try:
        hash(value)
    except TypeError:
        return False
    return True


class Telling(unittest.TestCase):
    def made(self):
        moves = {"g": (OWN, 1), "#": ((("hole", "x"),), 0), "a": ((), 0)}
        return Dress(((moves, 1, ()), ({}, 0, (("hole", "y"),))), {"y": CODE, "x": STAR}, opening=(("fixed", "ab"),))

    def test_properties(self):
        dress = self.made()
        moves = {"#": ((("hole", "x"),), 0), "a": ((), 0), "g": (OWN, 1)}
        self.assertEqual(dress.states, ((moves, 1, ()), ({}, 0, (("hole", "y"),))))
        self.assertEqual(list(dress.states[0][0]), ["#", "a", "g"])
        self.assertEqual(dress.holes, {"x": STAR, "y": CODE})
        self.assertEqual(list(dress.holes), ["x", "y"])
        self.assertEqual(dress.opening, (("fixed", "ab"),))
        self.assertIsInstance(dress.states, tuple)
        self.assertIsInstance(dress.states[0], tuple)

    def test_never_changes(self):
        dress = self.made()
        for name in ("states", "holes", "opening"):
            with self.assertRaises(AttributeError):
                setattr(dress, name, ())
        dress.states[0][0].clear()
        dress.states[1][0]["a"] = 3
        dress.holes.clear()
        dress.holes["x"] = None
        self.assertEqual(dress, self.made())
        self.assertEqual((len(dress.states[0][0]), len(dress.holes)), (3, 2))
        self.assertEqual(dress.plain("a"), self.made().plain("a"))

    def test_what_was_passed_can_change(self):
        moves = {"a": (OWN, 0)}
        holes = {"x": STAR}
        dress = Dress(((moves, 0, (("hole", "x"),)),), holes)
        moves["b"] = ((), 0)
        moves["a"] = ((), 7)
        holes["x"] = None
        holes.clear()
        self.assertEqual((dress.states, dress.holes), ((({"a": (OWN, 0)}, 0, (("hole", "x"),)),), {"x": STAR}))
        self.assertEqual(dress.dressed("ab", ("a",)), ((), (("own", "a"),), (("own", "b"),), (("filled", "a"),)))

    def test_arguments_stay(self):
        moves = {"g": (OWN, 0), "a": ((), 0)}
        holes = {"y": STAR, "x": STAR}
        Dress(((moves, 0, ()),), holes)
        self.assertEqual((list(moves), list(holes)), (["g", "a"], ["y", "x"]))

    def test_holes_by_names(self):
        dress = self.made()
        self.assertEqual((dress["x"], dress["y"]), (STAR, CODE))
        for name in every_value() + ["who", "X", "x ", ["x"], ("x",), {"x": 0}]:
            with self.assertRaises(UnknownName) as held:
                dress[name]
            self.assertIs(held.exception.name, name)
            self.assertNotIsInstance(held.exception, DressError)

    def test_len_and_str(self):
        self.assertEqual((len(PLAIN), len(STAMP), len(self.made())), (1, 1, 2))
        self.assertEqual(str(PLAIN), "dress of 1 states, 0 holes")
        self.assertEqual(str(STAMP), "dress of 1 states, 1 holes")
        self.assertEqual(str(self.made()), "dress of 2 states, 2 holes")

    def test_no_iteration(self):
        for dress in (PLAIN, STAMP, self.made()):
            with self.assertRaises(TypeError):
                iter(dress)
            with self.assertRaises(TypeError):
                list(dress)

    def test_equality(self):
        moves = {"a": ((), 0), "#": ((("hole", "x"),), 0), "g": (OWN, 1)}
        other = Dress(((moves, 1, ()), ({}, 0, (("hole", "y"),))), {"x": STAR, "y": CODE}, opening=(("fixed", "ab"),))
        self.assertTrue(self.made() == other)
        self.assertFalse(self.made() != other)
        self.assertTrue(Dress((({}, 0, ()),), {"b": STAR, "a": CODE}) == Dress((({}, 0, ()),), {"a": CODE, "b": STAR}))

    def test_what_is_not_equal(self):
        base = self.made()
        states, holes, opening = base.states, base.holes, base.opening
        others = [Dress(states[::-1], holes, opening=opening), Dress(states, holes), PLAIN, STAMP]
        others += [Dress(states, {**holes, "z": STAR}, opening=opening), Dress(states, {**holes, "x": CODE}, opening=opening)]
        others += [Dress(((states[0][0], 0, ()), states[1]), holes, opening=opening)]
        others += [Dress((states[0], ({}, 0, ())), holes, opening=opening), Dress(states, holes, opening=(("fixed", "a"),))]
        for other in others + every_value() + [states, (states, holes, opening), str(base)]:
            self.assertFalse(base == other)
            self.assertTrue(base != other)

    def test_a_move_like_none_is_a_move(self):
        self.assertFalse(Dress((({"a": (OWN, 0)}, 0, ()),)) == PLAIN)


class OtherHoles(unittest.TestCase):
    def test_with_hole(self):
        dress = Dress((({"a": ((("hole", "x"),), 0)}, 0, (("hole", "y"),)),), {"x": STAR, "y": STAR}, opening=(("fixed", "b"),))
        other = dress.with_hole("x", CODE)
        self.assertEqual((other.states, other.holes, other.opening), (dress.states, {"x": CODE, "y": STAR}, dress.opening))
        self.assertEqual(dress.holes, {"x": STAR, "y": STAR})
        self.assertEqual(other.with_hole("x", STAR), dress)
        self.assertEqual(list(other.with_hole("y", CODE).holes), ["x", "y"])
        self.assertEqual(dressed_text(other.dressed("a", ("01a", "aa"))), "b01aaa")

    def test_errors(self):
        for name in every_value() + ["who", "y", ["x"]]:
            for hole in (STAR, None, 0):
                with self.assertRaises(UnknownName) as held:
                    PAD.with_hole(name, hole)
                self.assertIs(held.exception.name, name)
        for hole in no_holes() + [STAR.runs, [STAR]]:
            with self.assertRaises(InvalidHole):
                PAD.with_hole("pad", hole)


class Texts(unittest.TestCase):
    def test_first_wrong_argument(self):
        for text in no_texts():
            for method in (PAD.plain, PAD.holes_of):
                with self.assertRaises(InvalidText):
                    method(text)
            for value in (None, (), ("",), ("x", 0)):
                with self.assertRaises(InvalidText):
                    PAD.dressed(text, value)
                with self.assertRaises(InvalidText):
                    PAD.makes(text, value)
            for many in (1, -1, None, 7):
                with self.assertRaises(InvalidText):
                    next(PAD.dressings(text, many=many))

    def test_lengths(self):
        for many in (0, 1, 2000):
            text = "_" * many
            self.assertEqual(PAD.plain(text), tuple(range(many)))
            self.assertEqual(PAD.holes_of(text), ("pad",))
            self.assertIs(PAD.makes(text, text + "_"), True)
            self.assertEqual(len(PAD.dressed(text, ("",))), many + 2)
            self.assertEqual(len(next(PAD.dressings(text))), many + 2)


if __name__ == "__main__":
    unittest.main()
