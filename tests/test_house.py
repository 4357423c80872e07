"""Houses: deed by deed, undone and tried, and as values (0.1, 0.2, 0.4, 12.1, stage 12)."""

import itertools
import random
import time
import unittest

from cleandress.clean.cleaners import Cleaner, dropping, only_with
from cleandress.clean.making import cleaner_for
from cleandress.dress.dresses import Dress, dressed_text
from cleandress.errors import (InvalidFilling, InvalidNumber, InvalidOperation, InvalidText, NothingToUndo, Refused,
                               UnknownName)
from cleandress.house import house as module
from cleandress.house.house import House
from cleandress.house.lines import Lines
from tests.examples import KEEP, PAD, PLAIN, STAMP, TRIM, UNSTAMP
from tests.test_lines import BOTH, no_paths
from tests.values import every_value, no_names, no_texts, short

OLD = Lines(("*", PAD, TRIM))
ONLY = Lines(("*", STAMP, only_with("$")), ("?", PAD, TRIM))
TWICE = Cleaner((({(sign, None): (sign * 2, 0) for sign in "ab"}, 0, ""),))
BOOKS = {"old": OLD, "new": Lines(), "only": ONLY, "both": BOTH}


def new_house(book="old"):
    return House(BOOKS, book)


def told(house):
    """All that can be seen of a house."""
    return house.books, house.book, house.stored, house.copies


class Interface(unittest.TestCase):
    def test_defined_there(self):
        self.assertEqual(House.__module__, module.__name__)
        for name in ("use", "put", "move", "take", "store", "undo", "redo", "trial", "during", "twin", "books", "book", "stored", "copies",
                     "__contains__", "__iter__", "__len__", "__eq__", "__str__"):
            self.assertIn(name, House.__dict__)


class NewHouses(unittest.TestCase):
    def test_without_texts(self):
        house = new_house("both")
        self.assertEqual(told(house), (BOOKS, "both", {}, {}))
        self.assertEqual((len(house), list(house), str(house)), (0, [], "house of 0 texts, 0 copies"))
        self.assertEqual(list(house.books), ["both", "new", "old", "only"])

    def test_names_of_books(self):
        for names in (["a"], ["abcdefgh"], ["a", "b"], ["z", "b", "ab", "y"]):
            house = House({name: Lines() for name in names}, names[0])
            self.assertEqual(list(house.books), sorted(names))
        for names in ([], ["a", "b", "c", "d", "e"], ["abcdefghi"], [""], ["A"], ["a1"], ["a "], ["a", "b_"]):
            with self.assertRaises(InvalidOperation):
                House({name: Lines() for name in names}, "a")

    def test_errors_in_their_order(self):
        for value in every_value() + [Lines(), [Lines()], (Lines(),), {"a": OLD, "b": None}, {"a": [OLD]}, {1: OLD}, {("a",): OLD}, {"a": PAD}]:
            with self.assertRaises(InvalidOperation):
                House(value, "a")
            with self.assertRaises(InvalidOperation):
                House(value, None)
            with self.assertRaises(InvalidOperation):
                House({"a": value} if not isinstance(value, Lines) else {}, "a")
        for value in every_value() + ["older"]:
            with self.assertRaises(UnknownName) as held:
                House(BOOKS, value)
            self.assertIs(held.exception.name, value)

    def test_books_are_kept_apart(self):
        books = {"a": OLD}
        house = House(books, "a")
        books["b"] = OLD
        books["a"] = Lines()
        house.books.clear()
        self.assertEqual(house.books, {"a": OLD})
        for name in ("stored", "copies"):
            house.put("a", "b")
            house.take("a", ("",))
            getattr(house, name)["b"] = "b"
            getattr(house, name).clear()
            self.assertEqual(getattr(house, name), {"a": "b"})


class Deeds(unittest.TestCase):
    def test_use(self):
        house = new_house()
        self.assertIs(house.use("both"), None)
        self.assertEqual((house.book, house.books), ("both", BOOKS))
        self.assertIs(house.use("both"), None)
        self.assertEqual(house.undo(many=2), 0)
        self.assertEqual(house.book, "old")
        for value in no_names() + ["a", "z", "older"]:
            with self.assertRaises(UnknownName) as held:
                house.use(value)
            self.assertIs(held.exception.name, value)
        self.assertEqual(house.book, "old")

    def test_put(self):
        house = new_house()
        self.assertEqual([house.put("b", "a_"), house.put("a", "__"), house.put("c#", "_a")], ["a", "", "_a"])
        self.assertEqual(house.stored, {"a": "", "b": "a", "c#": "_a"})
        self.assertEqual(list(house.stored), ["a", "b", "c#"])
        # In the place of what is there, by the line that counts in the book in use.
        house.use("new")
        self.assertEqual(house.put("b", "b_"), "b_")
        house.use("both")
        self.assertEqual([house.put("ab", "$a_"), house.put("b", "$a_")], ["$_", "$a"])
        self.assertEqual((house.stored["b"], len(house)), ("$a", 4))

    def test_put_takes_the_copy_away(self):
        house = new_house()
        house.put("a", "b")
        house.take("a", ("_",))
        house.put("b", "b")
        self.assertEqual(house.copies, {"a": "b_"})
        house.put("a", "b")
        self.assertEqual((house.copies, house.stored), ({}, {"a": "b", "b": "b"}))

    def test_put_is_refused(self):
        house = new_house("only")
        before = told(house)
        with self.assertRaises(Refused) as held:
            house.put("ab", "a_")
        self.assertEqual((held.exception.text, told(house)), ("a_", before))
        self.assertEqual([house.put("a", "a_"), house.put("ab", "$_")], ["a", "$_"])

    def test_move(self):
        house = new_house()
        house.put("b", "a")
        house.put("c", "b")
        self.assertIs(house.move("b", "a"), None)
        self.assertEqual((house.stored, list(house.stored)), ({"a": "a", "c": "b"}, ["a", "c"]))
        for path, other in (("a", "c"), ("a", "a"), ("c", "a")):
            with self.assertRaises(InvalidOperation):
                house.move(path, other)
        with self.assertRaises(UnknownName) as held:
            house.move("b", "a")
        self.assertEqual(held.exception.name, "b")
        house.take("a", ("",))
        with self.assertRaises(InvalidOperation):
            house.move("a", "b")
        # A copy elsewhere does not matter.
        house.move("c", "d")
        self.assertEqual((house.stored, house.copies), ({"a": "a", "d": "b"}, {"a": "a"}))

    def test_take_and_store(self):
        house = new_house()
        house.put("b", "a_")
        self.assertEqual(house.take("b", ("__",)), "a__")
        self.assertEqual((house.copies, house.stored), ({"b": "a__"}, {"b": "a"}))
        self.assertEqual(house.take("b", ("_",)), "a_")
        self.assertEqual((house.copies, house.store("b")), ({"b": "a_"}, False))
        self.assertEqual((house.copies, house.stored), ({}, {"b": "a"}))
        house.take("b", ("_",))
        house.use("new")
        self.assertEqual((house.store("b"), house.stored, house.copies), (True, {"b": "a_"}, {}))
        # The lines of the book in use count, not those that did when the copy was made.
        house.use("both")
        self.assertEqual(house.take("b", ("",)), "a_")
        self.assertIs(house.store("b"), True)

    def test_store_is_refused(self):
        house = new_house("new")
        house.put("ab", "a")
        self.assertEqual(house.take("ab", ()), "a")
        house.use("only")
        before = told(house)
        with self.assertRaises(Refused) as held:
            house.store("ab")
        self.assertEqual((held.exception.text, told(house)), ("a", before))
        self.assertEqual(house.undo(), 2)

    def test_take_with_wrong_fillings(self):
        house = House({"a": Lines(("*", STAMP, KEEP))}, "a")
        house.put("a", "$a$")
        before = told(house)
        for value in every_value():
            if not isinstance(value, tuple):
                with self.assertRaises(InvalidOperation):
                    house.take("a", value)
        for fillings, index in (((), 0), (("a",), 1), (("c", "a"), 0), (("a", "c"), 1), (("a", None), 1), (("c",), 0), (("c", "c", "c"), 0)):
            with self.assertRaises(InvalidFilling) as held:
                house.take("a", fillings)
            self.assertEqual(held.exception.index, index)
        with self.assertRaises(InvalidOperation):
            house.take("a", ("a", "b", "a"))
        self.assertEqual(told(house), before)
        self.assertEqual(house.undo(), 0)
        for value in (None, (), ["a"]):
            with self.assertRaises(UnknownName):
                house.take("b", value)

    def test_texts_of_any_length(self):
        books = {"a": Lines(("*", STAMP, TWICE)), "b": Lines(("*", STAMP, UNSTAMP))}
        house = House(books, "a")
        self.assertEqual(len(house.put("a", "ab" * 1000)), 4000)
        self.assertEqual(house.take("a", ()), house.stored["a"])
        self.assertIs(house.store("a"), True)
        self.assertEqual(len(house.stored["a"]), 8000)
        with self.assertRaises(InvalidOperation):
            house.take("a", ("a",))
        house.use("b")
        house.put("b", "$" * 2000)
        copy = house.take("b", ("a" * 50,) * 2000)
        self.assertEqual((len(copy), house.copies["b"]), (2000 * 52, copy))
        self.assertIs(house.store("b"), False)
        with self.assertRaises(InvalidText):
            house.put("a", "a" * 2001)

    def test_paths_in_error(self):
        house = new_house()
        house.put("a", "a")
        house.take("a", ("",))
        before = told(house)
        for value in no_paths():
            for call in (lambda: house.put(value, "a"), lambda: house.put(value, None), lambda: house.move(value, "a"), lambda: house.move("a", value),
                         lambda: house.move("b", value), lambda: house.move(value, None), lambda: house.take(value, ("",)),
                         lambda: house.take(value, None), lambda: house.store(value)):
                with self.assertRaises(InvalidText):
                    call()
        for value in no_texts():
            with self.assertRaises(InvalidText):
                house.put("a", value)
        with self.assertRaises(InvalidText):
            House(BOOKS, "only").put("ab", "a" * 2001)
        self.assertEqual(told(house), before)
        self.assertEqual(house.undo(many=2), 0)

    def test_unknown_paths(self):
        house = new_house()
        house.put("a", "b")
        for call in (lambda: house.move("b", "c"), lambda: house.take("b", ("",)), lambda: house.store("b"), lambda: house.move("b", "a")):
            with self.assertRaises(UnknownName) as held:
                call()
            self.assertEqual(held.exception.name, "b")
        # Something is stored there, but no copy lies there.
        with self.assertRaises(UnknownName):
            house.store("a")

    def test_made_cleaners(self):
        house = House({"a": Lines(("*", STAMP, cleaner_for(STAMP)))}, "a")
        with self.assertRaises(Refused):
            house.put("a", "$")
        self.assertEqual(house.put("a", "$ab:b"), "$b")
        house.take("a", ("bb",))
        self.assertIs(house.store("a"), False)


class Model:
    """A house another way: all that is there is copied with each call."""

    def __init__(self, books, book):
        self.books = books
        self.now = (book, {}, {})
        self.past = []
        self.ahead = []

    def line(self, path):
        lines = self.books[self.now[0]]
        return lines.dress_of(path), lines.cleaner_of(path)

    def go(self, book, stored, copies):
        self.past.append(self.now)
        self.ahead = []
        self.now = (book, stored, copies)

    def do(self, word, *told):
        """What a call returns, or the name of its error."""
        book, stored, copies = self.now[0], dict(self.now[1]), dict(self.now[2])
        if word == "use":
            if told[0] not in self.books:
                return "UnknownName"
            return self.go(told[0], stored, copies)
        path = told[0]
        if word == "put":
            result = self.line(path)[1](told[1])
            if result is None:
                return "Refused"
            stored[path] = result
            copies.pop(path, None)
            self.go(book, stored, copies)
            return result
        if word == "move":
            if path not in stored:
                return "UnknownName"
            if path in copies or told[1] in stored:
                return "InvalidOperation"
            stored[told[1]] = stored.pop(path)
            return self.go(book, stored, copies)
        if word == "take":
            if path not in stored:
                return "UnknownName"
            dress = self.line(path)[0]
            try:
                copies[path] = dressed_text(dress.dressed(stored[path], told[1]))
            except (InvalidFilling, InvalidOperation) as error:
                return error.__class__.__name__
            self.go(book, stored, copies)
            return copies[path]
        if path not in copies:
            return "UnknownName"
        result = self.line(path)[1](copies.pop(path))
        if result is None:
            return "Refused"
        told = stored[path] != result
        stored[path] = result
        self.go(book, stored, copies)
        return told

    def undo(self, many):
        if many > len(self.past):
            return "NothingToUndo"
        for _ in range(many):
            self.ahead.append(self.now)
            self.now = self.past.pop()
        return len(self.past)

    def redo(self, many):
        if many > len(self.ahead):
            return "NothingToUndo"
        for _ in range(many):
            self.past.append(self.now)
            self.now = self.ahead.pop()
        return len(self.past)


def called(house, word, *arguments):
    """What a call returns, or the name of its error."""
    try:
        if word in ("undo", "redo"):
            return getattr(house, word)(many=arguments[0])
        return getattr(house, word)(*arguments)
    except (UnknownName, Refused, InvalidOperation, InvalidFilling, NothingToUndo) as error:
        return error.__class__.__name__


def chosen_call(chance):
    word = chance.choice(["use", "put", "put", "move", "take", "take", "take", "store", "store", "undo", "redo"])
    if word in ("undo", "redo"):
        return word, chance.choice([0, 1, 1, 1, 2, 3])
    if word == "use":
        return word, chance.choice(list(BOOKS) + ["none"])
    path = chance.choice(["a", "b", "ab"])
    if word == "put":
        return word, path, chance.choice(["", "a", "a_", "$", "$a", "_$b:"])
    if word == "move":
        return word, path, chance.choice(["a", "b", "ab"])
    if word == "take":
        return word, path, chance.choice([(), ("",), ("_",), ("a",), ("ab", "b"), ("__",)])
    return word, path


class ManyCalls(unittest.TestCase):
    def test_chosen_calls(self):
        chance = random.Random(31)
        answers = []
        for _ in range(150):
            house, model = new_house(), Model(BOOKS, "old")
            for _ in range(60):
                call = chosen_call(chance)
                wanted = model.undo(call[1]) if call[0] == "undo" else model.redo(call[1]) if call[0] == "redo" else model.do(*call)
                self.assertEqual(called(house, *call), wanted)
                answers.append((call[0], wanted))
                self.assertEqual((house.book, house.stored, house.copies), model.now)
                self.assertEqual((list(house.stored), list(house.copies)), (sorted(house.stored), sorted(house.copies)))
                self.assertEqual((list(house), len(house)), (sorted(model.now[1]), len(model.now[1])))
        for pair in (("put", "Refused"), ("store", "Refused"), ("store", True), ("store", False), ("move", "InvalidOperation"), ("move", None),
                     ("take", "InvalidFilling"), ("take", "InvalidOperation"), ("undo", 3), ("redo", 3), ("redo", "NothingToUndo")):
            self.assertIn(pair, answers)


class Undone(unittest.TestCase):
    def three_calls(self):
        house = new_house()
        house.put("a", "b")
        house.take("a", ("_",))
        house.use("new")
        return house

    def test_by_hand(self):
        house = self.three_calls()
        self.assertEqual([house.undo(), house.book, house.copies], [2, "old", {"a": "b_"}])
        self.assertEqual([house.undo(), house.copies, house.stored], [1, {}, {"a": "b"}])
        self.assertEqual([house.redo(many=2), house.book, house.copies], [3, "new", {"a": "b_"}])
        self.assertEqual([house.undo(many=3), told(house)], [0, (BOOKS, "old", {}, {})])
        self.assertEqual([house.redo(), house.stored, house.copies], [1, {"a": "b"}, {}])

    def test_none_all_and_one_more(self):
        house = self.three_calls()
        self.assertEqual([house.undo(many=0), house.redo(many=0), house.book], [3, 3, "new"])
        for many in (4, 5, 10**39, 10**40 - 1):
            with self.assertRaises(NothingToUndo) as held:
                house.undo(many=many)
            self.assertEqual((held.exception.many, house.book), (many, "new"))
        with self.assertRaises(NothingToUndo) as held:
            house.redo()
        self.assertEqual(held.exception.many, 1)
        self.assertEqual(house.undo(many=3), 0)
        with self.assertRaises(NothingToUndo):
            house.undo()
        with self.assertRaises(NothingToUndo):
            house.redo(many=4)
        self.assertEqual([house.undo(many=0), house.redo(many=3), house.book], [0, 3, "new"])

    def test_calls_that_change_nothing_count(self):
        house = new_house()
        house.use("old")
        house.put("a", "b")
        house.put("a", "b")
        house.use("old")
        self.assertEqual([house.undo(), house.undo(), house.stored, house.undo(), house.stored, house.undo()], [3, 2, {"a": "b"}, 1, {}, 0])

    def test_calls_with_errors_do_not_count(self):
        house = self.three_calls()
        house.undo()
        for call in (lambda: house.use("none"), lambda: house.put("a", None), lambda: house.put(None, "a"), lambda: house.move("a", "b"),
                     lambda: house.store("b"), lambda: house.take("a", ()), lambda: house.undo(many=-1), lambda: house.redo(many=2)):
            with self.assertRaises((UnknownName, InvalidText, InvalidOperation, InvalidFilling, InvalidNumber, NothingToUndo)):
                call()
        # Nor do they end redoing.
        self.assertEqual([house.redo(), house.book], [3, "new"])

    def test_a_new_call_ends_redoing(self):
        house = self.three_calls()
        house.undo(many=2)
        house.use("old")
        with self.assertRaises(NothingToUndo):
            house.redo()
        self.assertEqual([house.undo(many=2), house.stored, house.redo(many=2), house.book], [0, {}, 2, "old"])

    def test_wrong_numbers(self):
        house = self.three_calls()
        house.undo()
        for value in every_value() + [-1, -(10**39), 10**40, 10**79]:
            if isinstance(value, int) and not isinstance(value, bool) and 0 <= value < 10**40:
                continue
            for method in (house.undo, house.redo):
                with self.assertRaises(InvalidNumber) as held:
                    method(many=value)
                self.assertIs(held.exception.value, value)
        with self.assertRaises(TypeError):
            house.undo(1)
        with self.assertRaises(TypeError):
            house.redo(1)

    def test_many_calls(self):
        begin = time.perf_counter()
        house = new_house()
        for _ in range(30000):
            house.use("old")
        self.assertEqual([house.undo(many=30000), house.redo(many=29999), house.undo(many=29999)], [0, 29999, 0])
        del house
        self.assertLess(time.perf_counter() - begin, 15)


class Trials(unittest.TestCase):
    def test_as_before(self):
        house = new_house()
        house.put("a", "b")
        house.use("new")
        house.undo()
        before = told(house)
        with house.trial() as same:
            self.assertIs(same, house)
            same.put("b", "b")
            same.take("a", ("_",))
            same.undo(many=3)
            same.use("both")
            self.assertEqual((house.book, house.stored), ("both", {}))
        self.assertEqual(told(house), before)
        # Also what can be undone and done again.
        self.assertEqual([house.redo(), house.book, house.undo(many=2), house.stored], [2, "new", 0, {}])

    def test_by_an_error(self):
        house = new_house()
        house.put("a", "b")
        before = told(house)
        for error in (UnknownName, Refused, ZeroDivisionError, KeyboardInterrupt):
            with self.assertRaises(error):
                with house.trial() as same:
                    same.undo()
                    raise error("a")
            self.assertEqual(told(house), before)
            with self.assertRaises(error):
                house.during(lambda same: same.use("new") or self.fail_with(error))
            self.assertEqual((told(house), house.undo(many=0)), (before, 1))

    def fail_with(self, error):
        raise error("a")

    def test_within_one_another(self):
        house = new_house()
        with house.trial() as one:
            one.put("a", "a")
            with one.trial() as other:
                other.put("b", "b")
                other.undo(many=2)
                with house.trial():
                    house.use("new")
                self.assertEqual(told(house), (BOOKS, "old", {}, {}))
                self.assertEqual(other.redo(many=2), 2)
            self.assertEqual((house.stored, house.undo(many=0)), ({"a": "a"}, 1))
            one.use("both")
        self.assertEqual((told(house), house.undo(many=0)), ((BOOKS, "old", {}, {}), 0))
        with self.assertRaises(NothingToUndo):
            house.redo()

    def test_one_trial_twice(self):
        house = new_house()
        trial = house.trial()
        house.put("a", "a")
        with trial:
            house.put("a", "b")
            with trial:
                house.put("a", "c")
            self.assertEqual(house.stored, {"a": "b"})
        # The block begins where it is entered, not where it is made.
        self.assertEqual(house.stored, {"a": "a"})
        with trial as same:
            same.undo()
        self.assertEqual(house.stored, {"a": "a"})

    def test_during(self):
        house = new_house()
        house.put("a", "b_")
        self.assertEqual(house.during(lambda same: (same.take("a", ("__",)), same.use("new"), same.store("a"), same.stored)),
                         ("b__", None, True, {"a": "b__"}))
        self.assertEqual((told(house), house.undo(many=0)), ((BOOKS, "old", {"a": "b"}, {}), 1))
        self.assertIs(house.during(lambda same: same), house)
        self.assertEqual(house.during(lambda same: same.during(lambda inner: inner.undo())), 0)
        self.assertEqual(house.stored, {"a": "b"})

    def test_twins(self):
        house = new_house()
        house.put("a", "b")
        house.use("new")
        house.undo()
        twin = house.twin()
        self.assertIsNot(twin, house)
        self.assertEqual((twin, told(twin)), (house, told(house)))
        # Both can be undone and done again, each alone.
        self.assertEqual([twin.redo(), twin.book, house.book], [2, "new", "old"])
        house.put("b", "c")
        self.assertEqual([twin.stored, house.stored, twin == house], [{"a": "b"}, {"a": "b", "b": "c"}, False])
        self.assertEqual([twin.undo(many=2), house.undo(many=2), twin.stored, house.stored], [0, 0, {}, {}])
        with house.trial():
            house.use("both")
            self.assertEqual(twin.book, "old")


class Values(unittest.TestCase):
    def test_in(self):
        house = new_house()
        house.put("a", "b")
        house.put("ab", "b")
        self.assertEqual(["a" in house, "ab" in house, "b" in house], [True, True, False])
        for value in every_value():
            self.assertIs(value in house, value in ("a", "ab") if isinstance(value, str) else False, short(value))

    def test_iteration(self):
        house = new_house()
        for path in ("b", "#", "ab", "a", "_"):
            house.put(path, "")
        self.assertEqual((list(house), len(house)), (["#", "_", "a", "ab", "b"], 5))
        house.move("#", "c")
        self.assertEqual(list(house), ["_", "a", "ab", "b", "c"])
        for path in house:
            house.put(path, "a")
            house.use("new")
        self.assertEqual(house.stored, {path: "a" for path in house})

    def test_equal(self):
        house, other = new_house(), new_house()
        self.assertEqual(house, other)
        house.put("a", "b_")
        self.assertNotEqual(house, other)
        other.put("a", "b")
        self.assertEqual(house, other)
        house.take("a", ("",))
        self.assertNotEqual(house, other)
        other.take("a", ("",))
        self.assertEqual(house, other)
        # What can be undone makes no difference.
        other.use("old")
        self.assertIs(house == other, True)
        self.assertIs(house != other, False)
        house.use("new")
        self.assertNotEqual(house, other)
        self.assertNotEqual(House({"a": OLD}, "a"), House({"a": OLD, "b": OLD}, "a"))
        self.assertNotEqual(House({"a": OLD}, "a"), House({"a": Lines()}, "a"))
        self.assertEqual(House({"a": OLD, "b": BOTH}, "a"), House({"b": BOTH, "a": Lines(("*", PAD, TRIM))}, "a"))
        for value in every_value() + [told(house), OLD]:
            self.assertIs(house == value, False)
            self.assertIs(house != value, True)

    def test_str(self):
        house = new_house()
        house.put("a", "b")
        house.put("b", "b")
        house.take("a", ("",))
        self.assertEqual(str(house), "house of 2 texts, 1 copies")

    def test_equal_calls_return_equal_results(self):
        for calls in itertools.product([("put", "a", "b_"), ("take", "a", ("_",)), ("store", "a")], repeat=3):
            houses = (new_house(), new_house("old"))
            for call in calls:
                first, second = [called(house, *call) for house in houses]
                self.assertEqual((first, houses[0]), (second, houses[1]))

    def test_holes_of_a_dress_that_drops(self):
        # What the dress does not write is gone with the next store.
        drop = Dress((({"a": ((), 0)}, 0, ()),))
        house = House({"a": Lines(("*", drop, KEEP)), "b": Lines(("*", PLAIN, dropping(("b",))))}, "a")
        house.put("a", "ab")
        self.assertEqual([house.take("a", ()), house.store("a"), house.stored], ["b", True, {"a": "b"}])
        house.take("a", ())
        house.use("b")
        self.assertEqual([house.store("a"), house.stored], [True, {"a": ""}])
