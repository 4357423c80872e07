"""Cleaners as values, which parts make one, and ready ones (0.1, 0.2, 0.4, 0.11, 0.12, stage 4)."""

import unittest

from cleandress.base.signs import SIGNS
from cleandress.clean import cleaners as module
from cleandress.clean.cleaners import MAX_LOOK, MAX_WRITER, Cleaner, dropping, only_with, plain_cleaner, trimming
from cleandress.errors import InvalidCleaner, InvalidText
from tests.examples import KEEP, TRIM, UNSTAMP
from tests.oracle import all_texts
from tests.values import ALL_SIGNS, every_value, no_numbers, no_sign_tuples, no_texts, short

STATE = ({}, 0, "")
LOOK = ({}, 0)


class Interface(unittest.TestCase):
    def test_defined_there(self):
        for value in (Cleaner, plain_cleaner, dropping, trimming, only_with):
            self.assertEqual(value.__module__, module.__name__)
        names = ("writer", "look", "firsts", "views", "walk", "views_that_come", "__init__", "__call__", "__contains__")
        for name in names + ("__eq__", "__len__", "__str__"):
            self.assertIn(name, Cleaner.__dict__)

    def test_constants(self):
        self.assertEqual((MAX_LOOK, MAX_WRITER), (3, 4))


class Making(unittest.TestCase):
    def wrong(self, *args, **more):
        with self.assertRaises(InvalidCleaner):
            Cleaner(*args, **more)

    def test_plain(self):
        self.assertEqual(plain_cleaner(), Cleaner((STATE,)))
        self.assertEqual((KEEP.writer, KEEP.look, KEEP.firsts), ((STATE,), (LOOK,), (0,)))

    def test_how_many_states(self):
        for many in range(1, 5):
            self.assertEqual(len(Cleaner((STATE,) * many)), many)
        for many in (0, 5, 6, 30):
            self.wrong((STATE,) * many)
        for many in range(1, 4):
            self.assertEqual(Cleaner((STATE,), look=(LOOK,) * many).firsts, (0,) * many)
        for many in (0, 4, 5, 30):
            self.wrong((STATE,), look=(LOOK,) * many)

    def test_writers_that_are_none(self):
        wrong = [list(STATE), ({}, 0), ({}, 0, "", ""), {}, (None, 0, ""), ([], 0, ""), ((), 0, ""), ({}, "", 0), ({}, 0)]
        for value in every_value() + wrong:
            self.wrong((value,))
            self.wrong((STATE, value))
            self.wrong((value, STATE))
            self.wrong(value)
        for value in ([STATE], {0: STATE}, STATE):
            self.wrong(value)
        for value in every_value():
            if value != {}:
                self.wrong(((value, 0, ""),))

    def test_other_and_states_of_moves(self):
        for many in range(1, 5):
            for state in range(-2, 7):
                more = (STATE,) * (many - 1)
                if 0 <= state < many:
                    self.assertEqual(Cleaner((({}, state, ""),) + more).writer[0][1], state)
                    self.assertEqual(Cleaner((({("a", None): ("", state)}, 0, ""),) + more).writer[0][0], {("a", None): ("", state)})
                else:
                    self.wrong((({}, state, ""),) + more)
                    self.wrong((({("a", None): ("", state)}, 0, ""),) + more)
        for value in no_numbers(0):
            self.wrong((({}, value, ""),))
            self.wrong((({("a", None): ("", value)}, 0, ""),))

    def test_written_texts(self):
        for text in ("", "a", "#g"):
            self.assertEqual(Cleaner((({}, 0, text),)).writer[0][2], text)
            self.assertEqual(Cleaner((({("a", 0): (text, 0)}, 0, ""),)).writer[0][0], {("a", 0): (text, 0)})
        for text in every_value() + ["abc", "h", "a\n", ["a"], ("a",)]:
            if not (isinstance(text, str) and text in ("", "a", "#", "ab", "1")):
                self.wrong((({}, 0, text),))
                self.wrong((({("a", 0): (text, 0)}, 0, ""),))

    def test_keys(self):
        for many in range(1, 4):
            look = (LOOK,) * many
            for view in [None] + list(range(-2, 6)):
                if view is None or 0 <= view < many:
                    self.assertEqual(Cleaner((({("g", view): ("", 0)}, 0, ""),), look=look).writer[0][0], {("g", view): ("", 0)})
                else:
                    self.wrong((({("g", view): ("", 0)}, 0, ""),), look=look)
        wrong = ["a", ("a",), ("a", 0, 0), (0, "a"), ("h", 0), ("", 0), ("ab", 0), ("a", True), ("a", False), ("a", "0")]
        wrong += [(None, "a"), ("a", ()), ("a", (0,)), (("a", 0),), None, 0, True, (), (None, None), (0, 0), (True, 0)]
        for key in wrong:
            self.wrong((({key: ("", 0)}, 0, ""),), look=(LOOK,) * 2)
            self.wrong((({("a", None): ("", 0), key: ("", 0)}, 0, ""),), look=(LOOK,) * 2)

    def test_moves_of_writers(self):
        for value in every_value() + [["", 0], (0, ""), ("", 0, 0), ("",), {"": 0}, (("", 0),)]:
            self.wrong((({("a", None): value}, 0, ""),))
            self.wrong((({("a", None): ("", 0), ("b", 0): value}, 0, ""),))

    def test_looks(self):
        for many in range(1, 4):
            for state in range(-2, 6):
                more = (LOOK,) * (many - 1)
                if 0 <= state < many:
                    self.assertEqual(Cleaner((STATE,), look=(({}, state),) + more).look[0][1], state)
                    self.assertEqual(Cleaner((STATE,), look=(({"a": state}, 0),) + more).look[0][0], {"a": state})
                else:
                    self.wrong((STATE,), look=(({}, state),) + more)
                    self.wrong((STATE,), look=(({"a": state}, 0),) + more)
        for value in no_numbers(0):
            self.wrong((STATE,), look=(({}, value),))
            self.wrong((STATE,), look=(({"a": value}, 0),))

    def test_looks_that_are_none(self):
        for value in every_value() + [list(LOOK), ({},), ({}, 0, 0), {}, (None, 0), ([], 0), (0, {}), (LOOK,)]:
            self.wrong((STATE,), look=(value,))
            self.wrong((STATE,), look=(LOOK, value))
            if value is not None and value != (LOOK,):
                self.wrong((STATE,), look=value)
        for value in every_value():
            if value not in ({}, {"a": 0}):
                self.wrong((STATE,), look=((value, 0),))
        for key in ("", "h", "ab", 0, None, True, ("a",), ("a", None)):
            self.wrong((STATE,), look=(({key: 0}, 0),))
        for value in ([LOOK], {0: LOOK}, LOOK):
            self.wrong((STATE,), look=value)

    def test_firsts(self):
        for firsts in ((0, 0), (0, 1), (1, None), (None, None)):
            self.assertEqual(Cleaner((STATE, STATE), look=(LOOK, LOOK), firsts=firsts).firsts, firsts)
        wrong = [(), (0,), (0, 0, 0), (0, 2), (-1, 0), [0, 0], {0: 0, 1: 0}, (True, 0), (0, False), (0, "0"), (0, (0,))]
        for firsts in wrong + [value for value in every_value() if value is not None]:
            self.wrong((STATE, STATE), look=(LOOK, LOOK), firsts=firsts)
        for value in no_numbers(1):
            if value is not None:
                self.wrong((STATE, STATE), look=(LOOK, LOOK), firsts=(value, 0))
                self.wrong((STATE, STATE), firsts=(value,))

    def test_several_wrong_at_once(self):
        for value in every_value():
            self.wrong(value, look=value, firsts=value)
            self.wrong(value, look=(value,), firsts=(0,))
        self.wrong((({("a", 1): ("abc", 1)}, 0, ""),), look=(), firsts=(0, 0))
        self.wrong(None, look=None, firsts=None)

    def test_keywords(self):
        with self.assertRaises(TypeError):
            Cleaner((STATE,), (LOOK,))


class Telling(unittest.TestCase):
    def made(self):
        moves = {("b", None): ("", 1), ("a", None): ("a", 0), ("b", 1): ("ab", 1), ("a", 2): ("", 0), ("a", 0): ("", 1)}
        look = (({"g": 1, "#": 2}, 0), ({}, 1), ({"a": 0}, 2))
        return Cleaner(((moves, 1, "_"), ({}, 0, "")), look=look, firsts=(0, None, 1))

    def test_properties(self):
        cleaner = self.made()
        keys = [("a", 0), ("a", 2), ("a", None), ("b", 1), ("b", None)]
        self.assertEqual(list(cleaner.writer[0][0]), keys)
        self.assertEqual(list(cleaner.writer[0][0]), sorted(cleaner.writer[0][0], key=repr))
        self.assertEqual(cleaner.writer[0][1:], (1, "_"))
        self.assertEqual(list(cleaner.look[0][0]), ["#", "g"])
        self.assertEqual((cleaner.look, cleaner.firsts), ((({"#": 2, "g": 1}, 0), ({}, 1), ({"a": 0}, 2)), (0, None, 1)))

    def test_never_changes(self):
        cleaner = self.made()
        for name in ("writer", "look", "firsts"):
            with self.assertRaises(AttributeError):
                setattr(cleaner, name, ())
        cleaner.writer[0][0].clear()
        cleaner.look[0][0]["a"] = 1
        self.assertEqual(cleaner, self.made())
        self.assertEqual(cleaner("ab"), self.made()("ab"))

    def test_what_was_passed_can_change(self):
        moves, seen = {("a", None): ("", 0)}, {"a": 0}
        cleaner = Cleaner(((moves, 0, ""),), look=((seen, 1), ({}, 1)))
        moves["b", None] = ("", 0)
        moves["a", None] = ("b", 7)
        seen.clear()
        self.assertEqual((cleaner("ab"), cleaner.look), ("b", (({"a": 0}, 1), ({}, 1))))
        self.assertEqual(cleaner.writer, (({("a", None): ("", 0)}, 0, ""),))

    def test_arguments_stay(self):
        moves, seen = {("b", None): ("", 0), ("a", None): ("", 0)}, {"b": 0, "a": 0}
        Cleaner(((moves, 0, ""),), look=((seen, 0),))
        self.assertEqual((list(moves), list(seen)), ([("b", None), ("a", None)], ["b", "a"]))

    def test_equality(self):
        cleaner = self.made()
        moves = dict(reversed(list(cleaner.writer[0][0].items())))
        other = Cleaner(((moves, 1, "_"), ({}, 0, "")), look=cleaner.look, firsts=(0, None, 1))
        self.assertTrue(cleaner == other)
        self.assertFalse(cleaner != other)

    def test_what_none_stands_for(self):
        self.assertTrue(Cleaner((STATE,)) == Cleaner((STATE,), look=(({}, 0),), firsts=(0,)))
        self.assertTrue(Cleaner((STATE,), look=(LOOK, LOOK)) == Cleaner((STATE,), look=(LOOK, LOOK), firsts=(0, 0)))
        self.assertTrue(Cleaner((STATE, STATE), firsts=(0,)) == Cleaner((STATE, STATE)))
        self.assertFalse(Cleaner((STATE, STATE), firsts=(1,)) == Cleaner((STATE, STATE)))

    def test_what_is_not_equal(self):
        cleaner = self.made()
        writer, look, firsts = cleaner.writer, cleaner.look, cleaner.firsts
        others = [KEEP, TRIM, UNSTAMP, Cleaner(writer, look=look), Cleaner(writer[::-1], look=look, firsts=firsts)]
        others += [Cleaner(writer, look=(look[0], look[2], look[1]), firsts=firsts), Cleaner(writer, look=look, firsts=(0, None, 0))]
        others += [Cleaner(((writer[0][0], 1, ""), writer[1]), look=look, firsts=firsts)]
        for other in others + every_value() + [writer, (writer, look, firsts), str(cleaner)]:
            self.assertFalse(cleaner == other)
            self.assertTrue(cleaner != other)
        # A look that is never used otherwise is another one, and a move that changes nothing is a move.
        self.assertFalse(KEEP == Cleaner((STATE,), look=(({"a": 0}, 0),)))
        self.assertFalse(KEEP == Cleaner((({("a", None): ("a", 0)}, 0, ""),)))

    def test_len_and_str(self):
        told = [(KEEP, 1, 1), (TRIM, 1, 2), (UNSTAMP, 2, 1), (self.made(), 2, 3)]
        for cleaner, states, views in told:
            self.assertEqual(len(cleaner), states)
            self.assertEqual(str(cleaner), "cleaner of " + str(states) + " states, " + str(views) + " views")

    def test_no_iteration(self):
        for cleaner in (KEEP, self.made()):
            with self.assertRaises(TypeError):
                iter(cleaner)


class Ready(unittest.TestCase):
    def test_dropping(self):
        for signs in (("_",), ("#", "g"), ALL_SIGNS):
            cleaner = dropping(signs)
            self.assertEqual((len(cleaner), len(cleaner.look)), (1, 1))
            for text in all_texts(("_", "#", "g", "a"), 4):
                self.assertEqual(cleaner(text), "".join(sign for sign in text if sign not in signs))

    def test_trimming(self):
        for signs in (("_",), ("#", "g"), ALL_SIGNS):
            cleaner = trimming(signs)
            self.assertEqual(len(cleaner), 1)
            self.assertLessEqual(len(cleaner.look), 2)
            for text in all_texts(("_", "#", "g", "a"), 5):
                self.assertEqual(cleaner(text), text.rstrip("".join(signs)))

    def test_only_with(self):
        for sign in SIGNS:
            cleaner = only_with(sign)
            self.assertEqual(len(cleaner), 1)
            self.assertLessEqual(len(cleaner.look), 2)
            for text in all_texts(("a", "#", "_"), 4) + [sign, "a" + sign + "a", sign * 3]:
                self.assertEqual(cleaner(text), text if sign in text else None)
                self.assertIs(text in cleaner, sign in text)

    def test_errors(self):
        for value in no_sign_tuples() + [()]:
            for function in (dropping, trimming):
                with self.assertRaises(InvalidText):
                    function(value)
        for value in every_value() + ["ab", "", "h", ("a",), ["a"]]:
            if not (isinstance(value, str) and value in ("a", "#", "1")):
                with self.assertRaises(InvalidText):
                    only_with(value)


class Texts(unittest.TestCase):
    def test_wrong_texts(self):
        for value in no_texts():
            for method in (KEEP, KEEP.views, KEEP.walk, only_with("a"), only_with("a").walk):
                with self.assertRaises(InvalidText):
                    method(value)

    def test_lengths(self):
        for many in (0, 1, 2000):
            text = "a" * many
            self.assertEqual((KEEP(text), len(KEEP.views(text)), len(KEEP.walk(text))), (text, many + 1, many + 1))

    def test_in_accepts_every_value(self):
        for value in every_value() + ["a" * 2001, "a" * 50000, "a" * 50000 + "h"]:
            wanted = isinstance(value, str) and set(value) <= set(SIGNS)
            self.assertIs(value in KEEP, wanted, short(value))
            self.assertIs(value in only_with("b"), wanted and "b" in value)
        self.assertIs("a" * 50000 + "b" in only_with("b"), True)
        self.assertIs("b" + "a" * 50000 in only_with("b"), True)
        self.assertIs("a" * 50000 in only_with("b"), False)
