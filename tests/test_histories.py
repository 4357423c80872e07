"""Every history: what fits, what stirs, and by which roads nothing does (0.4, 0.19, 13.1, 13.2, stage 13)."""

import itertools
import random
import time
import unittest

from cleandress.clean.cleaners import Cleaner, dropping, only_with
from cleandress.clean.making import cleaner_for
from cleandress.dress.dresses import Dress
from cleandress.errors import InvalidFilling, InvalidOperation, InvalidText, Refused, TooMany, UnknownName
from cleandress.house import histories as module
from cleandress.house.histories import (MAX_DEEDS, is_stirring_history, lived, nothing_stirs, roads_of,
                                        stirring_history)
from cleandress.house.house import House
from cleandress.house.lines import Lines
from cleandress.judge.still import is_still
from tests.chosen import chosen_cleaner, chosen_dress
from tests.examples import KEEP, PAD, PLAIN, STAMP, TRIM, UNSTAMP
from tests.large import STILL_4001
from tests.test_lines import WIDE_LINES, chosen_pattern, told_number
from tests.oracle import all_texts
from tests.values import every_value, short

MIXED = {"old": Lines(("*", PAD, TRIM), ("a*", STAMP, UNSTAMP))}
CALM = {"one": Lines(("*", STAMP, UNSTAMP))}
# Each book alone is calm; a text that is dressed by one and cleaned by the other is not.
APART = {"one": Lines(("*", STAMP, UNSTAMP)), "two": Lines(("*", PLAIN, KEEP))}
FULL = Lines(*[("*", *STILL_4001[1:])])


def no_books():
    return [value for value in every_value()] + [{"a": PAD}, {"a": Lines(), "B": Lines()}, {name: Lines() for name in "abcde"}, [Lines()]]


def with_errors(call, *arguments):
    """The name of the error that a call raises, or None."""
    try:
        call(*arguments)
    except (InvalidText, InvalidOperation, UnknownName, InvalidFilling, TooMany, Refused) as error:
        return error.__class__.__name__
    return None


def told_history(books, book, history):
    """A pair: whether a history fits, and whether it stirs, by the calls of a house."""
    house = House(books, book)
    for at, deed in enumerate(history):
        try:
            result = getattr(house, deed[0])(*deed[1:])
        except Refused:
            last = at + 1 == len(history) and deed[0] == "store"
            return last, last
        except (InvalidText, InvalidOperation, UnknownName, InvalidFilling):
            return False, False
    return True, bool(history) and history[-1][0] == "store" and result


class Interface(unittest.TestCase):
    def test_defined_there(self):
        for value in (lived, nothing_stirs, stirring_history, is_stirring_history, roads_of):
            self.assertEqual(value.__module__, module.__name__)
        self.assertEqual(MAX_DEEDS, 40)


class Lived(unittest.TestCase):
    def test_by_hand(self):
        self.assertEqual(lived(MIXED, "old", (("put", "a", "$b"),)).stored, {"a": "$"})
        house = lived(APART, "one", (("put", "a", "$"), ("use", "two"), ("move", "a", "b"), ("take", "b", ()), ("store", "b"), ("put", "c", "a"),
                                     ("take", "c", ())))
        self.assertEqual((house.book, house.stored, house.copies), ("two", {"b": "$", "c": "a"}, {"c": "a"}))
        self.assertEqual(house.undo(many=7), 0)
        self.assertEqual(house, House(APART, "one"))

    def test_the_empty_history(self):
        house = lived(CALM, "one", ())
        self.assertEqual((house, house.undo(many=0)), (House(CALM, "one"), 0))
        self.assertIs(is_stirring_history(CALM, "one", ()), False)

    def test_no_deed_has_been_undone(self):
        house = lived(APART, "one", (("use", "one"), ("put", "a", "a")))
        self.assertEqual(house.undo(), 1)
        self.assertEqual(house.redo(), 2)

    def test_forty_and_one_more(self):
        use = (("use", "one"),)
        self.assertEqual(lived(CALM, "one", use * 40).undo(many=40), 0)
        with self.assertRaises(InvalidOperation):
            lived(CALM, "one", use * 41)
        stir = (("put", "a", "a"), ("take", "a", ()), ("store", "a"))
        books = {"one": Lines(("a", PLAIN, Cleaner((({("a", None): ("b", 0), ("b", None): ("a", 0)}, 0, ""),))))}
        self.assertIs(is_stirring_history(books, "one", use * 37 + stir), True)
        self.assertIs(is_stirring_history(books, "one", use * 38 + stir), False)

    def test_what_does_not_fit(self):
        wrong = [(("use", "two"),), (("move", "a", "b"),), (("take", "a", ()),), (("store", "a"),), (("put", "a", "a" * 2001),),
                 (("put", "a", "a"), ("store", "a")), (("put", "a", "a"), ("take", "a", ("c",))), (("put", "a", "$"), ("take", "a", ())),
                 (("put", "a", "$"), ("take", "a", ("c",))), (("put", "a", "a"), ("move", "a", "a"))]
        for history in wrong:
            with self.assertRaises(InvalidOperation):
                lived(CALM, "one", history)
            with self.assertRaises(InvalidOperation):
                lived(CALM, "one", history + (("use", "one"),))
            self.assertIs(is_stirring_history(CALM, "one", history), False)

    def test_a_last_store_that_is_refused(self):
        books = {"one": Lines(("*", PLAIN, only_with("a"))), "two": Lines(("*", PLAIN, only_with("b")))}
        start = (("put", "c", "a"), ("take", "c", ()))
        refused = start + (("use", "two"), ("store", "c"))
        self.assertIs(is_stirring_history(books, "one", refused), True)
        with self.assertRaises(InvalidOperation):
            lived(books, "one", refused)
        # Not if it is not the last one, nor a text that is put.
        self.assertIs(is_stirring_history(books, "one", refused + (("use", "two"),)), False)
        self.assertIs(is_stirring_history(books, "one", refused + refused[-1:]), False)
        self.assertIs(is_stirring_history(books, "one", (("put", "c", "b"),)), False)
        self.assertIs(is_stirring_history(books, "one", start + (("use", "two"), ("put", "d", "a"))), False)
        self.assertIs(is_stirring_history(books, "one", start + (("store", "c"),)), False)
        with self.assertRaises(InvalidOperation):
            lived(books, "one", (("put", "c", "b"),))

    def test_values_that_are_no_histories(self):
        put = ("put", "a", "b")
        wrong = [[put], (list(put),), ("put", "a", "b"), (put, None), (("put", "a"),), (("put", "a", "b", "c"),), (("store", "a", "b"),), (("use",),),
                 (("use", "one", "two"),), (("move", "a"),), (("take", "a"),), (("take", "a", ["b"]),), (("take", "a", "b"),), (("take", "a", ("b", None)),),
                 (("take", "a", (("b",),)),), (("Put", "a", "b"),), (("undo", "a"),), (("twin",),), ((),), (("",),), (("stored", "a"),), (("__init__", "a"),)]
        for value in wrong + [value for value in every_value() if value != ()]:
            with self.assertRaises(InvalidOperation):
                lived(CALM, "one", value)
            self.assertIs(is_stirring_history(CALM, "one", value), False)
        for value in every_value():
            for deed in (("use", value), ("put", value, "a"), ("put", "a", value), ("move", value, "a"), ("move", "a", value), ("take", value, ()),
                         ("take", "a", value), ("take", "a", (value,)), ("store", value), (value, "a"), (value, "a", "b")):
                for history in ((deed,), (put, deed)):
                    try:
                        wanted = told_history(CALM, "one", history)
                    except (TypeError, AttributeError, ValueError):
                        wanted = (False, False)
                    if deed[0] not in ("use", "put", "move", "take", "store"):
                        wanted = (False, False)
                    self.assertIs(with_errors(lived, CALM, "one", history) is None, wanted[0], short(history))
                    self.assertIs(is_stirring_history(CALM, "one", history), wanted[1])

    def test_errors_in_their_order(self):
        for value in no_books():
            for function in (lived, is_stirring_history):
                for book in ("a", None):
                    with self.assertRaises(InvalidOperation):
                        function(value, book, None)
        for value in every_value() + ["two"]:
            for function in (lived, is_stirring_history):
                with self.assertRaises(UnknownName) as held:
                    function(CALM, value, None)
                self.assertIs(held.exception.name, value)

    def test_chosen_histories(self):
        chance = random.Random(41)
        marks = []
        books = {"a": Lines(("*", PAD, TRIM), ("a*", STAMP, UNSTAMP)), "b": Lines(("*", PLAIN, only_with("a"))), "c": Lines(("*", PAD, dropping(("a",))))}
        for _ in range(6000):
            history = tuple(chosen_deed(chance) for _ in range(chance.randint(1, 8)))
            if chance.random() < 0.5:
                history = (("put", "a", "a_"), *history, ("take", "a", chance.choice([("",), ("_",), ()])), chosen_deed(chance), ("store", "a"))
            fits, stirs = told_history(books, "a", history)
            self.assertIs(is_stirring_history(books, "a", history), stirs)
            refused = fits and stirs and with_errors(House.store, behind(books, history[:-1]), history[-1][1]) == "Refused"
            self.assertIs(with_errors(lived, books, "a", history) is None, fits and not refused)
            marks.append((fits, stirs, refused))
        for mark in ((False, False, False), (True, False, False), (True, True, False), (True, True, True)):
            self.assertGreater(marks.count(mark), 3, mark)


def behind(books, history):
    return lived(books, "a", history)


def chosen_deed(chance):
    word = chance.choice(["use", "put", "put", "move", "take", "take", "store"])
    path = chance.choice("ab")
    told = {"use": (chance.choice("abc"),), "put": (path, chance.choice(["a", "_", "$", "b_"])), "move": (path, chance.choice("ab")),
            "take": (path, chance.choice([(), ("",), ("_",)])), "store": (path,)}
    return word, *told[word]


def told_roads(books, most=4):
    """The triples of all short paths, tried one by one, and the roads that they make."""
    paths = all_texts("#ab", most)[1:]
    firsts = set((name, told_number(lines, path)) for name, lines in books.items() for path in paths)
    lasts = set(((name, told_number(books[name], path)), (other, told_number(books[other], path))) for path in paths for name in books for other in books)
    return tuple(sorted([(first, *both) for first in firsts for both in lasts], key=repr))


def road_of(books, triple):
    (one, first), (two, second), (three, third) = triple
    return (KEEP if first is None else books[one][first][2], PLAIN if second is None else books[two][second][1],
            KEEP if third is None else books[three][third][2])


def chosen_books(chance, many=3, lines=3):
    parts = [(PAD, TRIM), (STAMP, UNSTAMP), (PLAIN, KEEP), (PAD, KEEP), (PLAIN, dropping(("_",))), (PLAIN, only_with("a"))]
    return {name: Lines(*[(chosen_pattern(chance, "ab*?", 3), *chance.choice(parts)) for _ in range(chance.randint(0, lines))])
            for name in ("x", "a", "mm")[:chance.randint(1, many)]}


class Roads(unittest.TestCase):
    def test_by_hand(self):
        self.assertEqual(roads_of({"a": Lines()}), ((("a", None),) * 3,))
        told = roads_of(MIXED)
        pairs = [("old", 0), ("old", 1)]
        self.assertEqual(told, tuple((first, last, last) for first in pairs for last in pairs))
        # For no path do both lines count, but each may be that of the path that a text is moved from.
        self.assertEqual(roads_of({"b": Lines(("a", PAD, TRIM)), "a": Lines(("b", STAMP, UNSTAMP))}), told_roads(
            {"b": Lines(("a", PAD, TRIM)), "a": Lines(("b", STAMP, UNSTAMP))}))

    def test_idle_lines_make_none(self):
        self.assertEqual(roads_of({"a": Lines(("a", PAD, TRIM), ("*", STAMP, UNSTAMP))}), ((("a", 1),) * 3,))

    def test_short_paths(self):
        chance = random.Random(42)
        for _ in range(150):
            books = chosen_books(chance)
            told = roads_of(books)
            self.assertEqual(told, told_roads(books))
            self.assertEqual(list(told), sorted(set(told), key=repr))

    def test_errors(self):
        for value in no_books():
            with self.assertRaises(InvalidOperation):
                roads_of(value)
        with self.assertRaises(TooMany) as held:
            roads_of({"a": WIDE_LINES})
        self.assertEqual(held.exception.limit, 2000)
        with self.assertRaises(TooMany):
            roads_of({"a": Lines(), "b": Lines(*list(WIDE_LINES)[:2]), "c": Lines(*list(WIDE_LINES)[2:])})


class NothingStirs(unittest.TestCase):
    def test_by_hand(self):
        self.assertEqual([nothing_stirs(MIXED, "old"), nothing_stirs(CALM, "one"), nothing_stirs({"a": Lines()}, "a")], [False, True, True])
        self.assertIs(nothing_stirs({"a": Lines(("*", PAD, TRIM))}, "a"), True)
        # A text of another path has blanks at its end.
        self.assertIs(nothing_stirs({"a": Lines(("a", PAD, TRIM))}, "a"), False)

    def test_two_books_together(self):
        for name in APART:
            self.assertIs(nothing_stirs({name: APART[name]}, name), True)
        self.assertEqual([nothing_stirs(APART, "one"), nothing_stirs(APART, "two")], [False, False])
        history = stirring_history(APART, "two")
        self.assertIs(is_stirring_history(APART, "two", history), True)
        self.assertIn(("use", "one"), history)
        # What one book lets through another one cannot keep.
        books = {"a": Lines(("*", PAD, TRIM)), "b": Lines(("*", PLAIN, KEEP))}
        self.assertEqual([nothing_stirs({"a": books["a"]}, "a"), nothing_stirs({"b": books["b"]}, "b"), nothing_stirs(books, "b")], [True, True, False])

    def test_texts_that_are_put_elsewhere(self):
        # All that is put under other paths than "a" comes back there, and what is put under "a" comes back under "a".
        books = {"a": Lines(("*", PAD, TRIM), ("a", PLAIN, KEEP))}
        history = stirring_history(books, "a")
        self.assertIs(is_stirring_history(books, "a", history), True)
        self.assertEqual([deed[1] for deed in history if deed[0] == "put"], ["a"])

    def test_with_fewer_lines_a_house_may_be_worse(self):
        more = Lines(("a", PAD, TRIM), ("*", STAMP, UNSTAMP))
        self.assertEqual([nothing_stirs({"a": more}, "a"), nothing_stirs({"a": Lines(more[0])}, "a")], [True, False])

    def test_by_all_roads(self):
        chance = random.Random(43)
        marks = []
        for _ in range(100):
            books = chosen_books(chance)
            book = chance.choice(list(books))
            wanted = all([is_still(road_of(books, triple)) for triple in told_roads(books)])
            self.assertIs(nothing_stirs(books, book), wanted)
            marks.append(wanted)
            history = stirring_history(books, book)
            self.assertIs(history is None, wanted)
            if history is not None:
                self.assertIs(is_stirring_history(books, book, history), True)
                self.assertLessEqual(len(history), 7)
        self.assertGreater(min(marks.count(True), marks.count(False)), 15)

    def test_chosen_parts(self):
        chance = random.Random(44)
        marks = []
        for _ in range(40):
            books = {name: Lines(*[(chosen_pattern(chance, "ab*", 2), chosen_dress(chance, 1, 1), chosen_cleaner(chance, 2, 1)) for _ in range(2)])
                     for name in ("a", "b")[:chance.randint(1, 2)]}
            try:
                history = stirring_history(books, "a")
            except TooMany:
                with self.assertRaises(TooMany):
                    nothing_stirs(books, "a")
                continue
            marks.append(history is None)
            self.assertIs(nothing_stirs(books, "a"), history is None)
            if history is not None:
                self.assertIs(is_stirring_history(books, "a", history), True)
                self.assertLessEqual(len(history), 7)
        self.assertGreater(marks.count(False), 20)

    def test_short_histories_one_by_one(self):
        # If nothing stirs, no short history does; if something does, one of at most seven deeds.
        for books in (CALM, {"a": Lines(("*", PAD, TRIM)), "b": Lines(("a", PAD, dropping(("_",))), ("?", PAD, TRIM), ("*", PAD, TRIM))}, MIXED, APART):
            calm = nothing_stirs(books, sorted(books)[0])
            deeds = [("use", book) for book in books] + [("store", "b"), ("move", "a", "b")]
            deeds += [("put", path, text) for path in "ab" for text in ("_", "$")] + [("take", "b", fillings) for fillings in ((), ("",), ("_",))]
            found = 0
            for many in range(1, 5):
                for history in itertools.product(deeds, repeat=many):
                    if history[-1][0] == "store" and is_stirring_history(books, sorted(books)[0], history):
                        found += 1
            if calm:
                self.assertEqual(found, 0)
            else:
                self.assertGreater(found, 0)

    def test_made_cleaners(self):
        made = cleaner_for(STAMP)
        self.assertIs(nothing_stirs({"a": Lines(("*", STAMP, made))}, "a"), True)
        self.assertIs(nothing_stirs({"a": Lines(("*", STAMP, made)), "b": Lines(("*", STAMP, UNSTAMP))}, "b"), True)
        books = {"a": Lines(("*", STAMP, made), ("a", PLAIN, KEEP))}
        self.assertIs(nothing_stirs(books, "a"), True)
        books = {"a": Lines(("*", STAMP, made)), "b": Lines(("*", PLAIN, KEEP))}
        self.assertIs(is_stirring_history(books, "a", stirring_history(books, "a")), True)

    def test_alike_lines_are_tried_once(self):
        begin = time.perf_counter()
        rows = [("*" + sign, PAD, TRIM) for sign in "abc"] + [(sign + "*", STAMP, UNSTAMP) for sign in "abc"]
        books = {name: Lines(*rows) for name in ("a", "b", "c", "d")}
        self.assertGreater(len(roads_of(books)), 500)
        self.assertIs(nothing_stirs(books, "a"), False)
        self.assertLess(time.perf_counter() - begin, 10)

    def test_errors_in_their_order(self):
        for function in (nothing_stirs, stirring_history):
            for value in no_books():
                for book in ("a", None):
                    with self.assertRaises(InvalidOperation):
                        function(value, book)
            for value in every_value() + ["two"]:
                with self.assertRaises(UnknownName) as held:
                    function(CALM, value)
                self.assertIs(held.exception.name, value)
                with self.assertRaises(UnknownName):
                    function({"one": WIDE_LINES}, value)
            # The tuples of paths come ahead of the standings of roads.
            for lines in (WIDE_LINES, WIDE_LINES + FULL):
                with self.assertRaises(TooMany) as held:
                    function({"one": lines}, "one")
                self.assertEqual(held.exception.limit, 2000)
            # Any of the roads counts, also where an earlier one is not still.
            for books in ({"one": FULL}, {"one": FULL, "old": MIXED["old"]}, {"one": Lines(("*", PAD, KEEP), ("a", *STILL_4001[1:]))}):
                with self.assertRaises(TooMany) as held:
                    function(books, "one")
                self.assertEqual(held.exception.limit, 4000)
        # Single histories have no limits.
        self.assertEqual(lived({"one": WIDE_LINES + FULL}, "one", (("put", "a", "a"),)).stored, {"a": "a"})
        self.assertIs(is_stirring_history({"one": WIDE_LINES + FULL}, "one", (("put", "a", "a"),)), False)

    def test_long_texts_cannot_be_put(self):
        self.assertIs(is_stirring_history({"one": Lines(("*", PAD, KEEP))}, "one", (("put", "a", "a" * 2001), ("take", "a", ("_",)), ("store", "a"))), False)
        self.assertIs(is_stirring_history({"one": Lines(("*", PAD, KEEP))}, "one", (("put", "a", "a" * 2000), ("take", "a", ("_" * 2001,)), ("store", "a"))), True)


class Dressed(unittest.TestCase):
    def test_holes_that_must_be_filled(self):
        dress = Dress((({"a": ((("hole", "x"), ("own",)), 0)}, 0, (("hole", "x"),)),), {"x": STAMP["who"]})
        books = {"one": Lines(("*", dress, KEEP))}
        history = stirring_history(books, "one")
        self.assertIs(is_stirring_history(books, "one", history), True)
