"""The whole program: what its parts tell of one another (0.14, 0.19, 0.20, 6.1 to 14.3)."""

import itertools
import random
import unittest

from cleandress.clean.cleaners import Cleaner, only_with
from cleandress.clean.making import cleaner_for, read_back
from cleandress.dress.dresses import Dress, dressed_text
from cleandress.dress.holes import Hole, is_within
from cleandress.errors import InvalidOperation, Refused, TooMany
from cleandress.house.histories import is_stirring_history, lived, nothing_stirs, roads_of, stirring_history
from cleandress.house.house import House
from cleandress.house.lines import Lines, path_classes
from cleandress.judge.edits import edits_paper, edits_pass, is_edits_paper
from cleandress.judge.readable import is_readable, is_readable_paper, readable_paper
from cleandress.judge.silent import is_silent, is_silent_paper, silent_paper
from cleandress.judge.still import is_still, is_still_paper, settles, still_paper
from cleandress.text.formats import read_cleaner, read_dress, read_history, write_cleaner, write_dress, write_history
from cleandress.use.greatest import greatest_signs, least_bars, stirred_with
from cleandress.walk.roads import along, comes_back
from cleandress.walk.standings import standings
from tests.chosen import FEW, chosen_cleaner, chosen_dress, chosen_hole, chosen_road
from tests.examples import KEEP, PAD, PLAIN, STAMP, TRIM, UNSTAMP
from tests.oracle import all_texts
from tests.test_histories import chosen_books, road_of


def tried(function, *arguments):
    """What a function returns, or that there are too many."""
    try:
        return function(*arguments)
    except TooMany:
        return "too many"


class Dresses(unittest.TestCase):
    def test_a_dress_and_all_that_rests_on_it(self):
        chance = random.Random(61)
        many = 0
        for _ in range(80):
            dress = chosen_dress(chance, 2, 2)
            self.assertEqual(read_dress(write_dress(dress)), dress)
            if tried(is_readable, dress) is not True:
                continue
            cleaner = tried(cleaner_for, dress)
            if cleaner == "too many":
                continue
            many += 1
            made = read_cleaner(write_cleaner(cleaner))
            house = House({"a": Lines(("*", dress, made))}, "a")
            for text in all_texts(FEW, 2):
                for dressing in itertools.islice(dress.dressings(text), 6):
                    dressed = dressed_text(dressing)
                    fillings = tuple(piece[1] for row in dressing for piece in row if piece[0] == "filled")
                    self.assertEqual((dress.dressed(text, fillings), dress.is_dressing(text, dressing), dress.makes(text, dressed)), (dressing, True, True))
                    self.assertEqual((cleaner(dressed), made(dressed), read_back(dress, dressed)), (text,) * 3)
                    self.assertEqual(along((KEEP, dress, made), text, (dressing,)), (text, text, dressed, text))
                    self.assertIs(comes_back((KEEP, dress, cleaner), text, (dressing,)), True)
                    # A house stores the text of a copy that was put, and it stays so.
                    self.assertEqual(house.put("a", dressed), text)
                    self.assertEqual((house.take("a", fillings), house.store("a")), (dressed, False))
            road = (KEEP, dress, made)
            self.assertIn(tried(is_still, road), (True, "too many"))
            self.assertIn(tried(settles, dress, made), (True, "too many"))
            self.assertIs(stirred_with(road, "ab_" * 50), None)
            self.assertIn(tried(greatest_signs, road, FEW), ((FEW,), "too many"))
            self.assertIn(tried(nothing_stirs, {"a": Lines(("*", dress, made))}, "a"), (True, "too many"))
        self.assertGreater(many, 30)

    def test_mixed_dresses_have_no_cleaner(self):
        chance = random.Random(62)
        many = 0
        for _ in range(100):
            dress = chosen_dress(chance, 2, 2)
            paper = tried(readable_paper, dress)
            if paper[0] != "mixed":
                continue
            many += 1
            _, text, other, dressed = paper
            with self.assertRaises(InvalidOperation):
                cleaner_for(dress)
            with self.assertRaises(InvalidOperation):
                read_back(dress, dressed)
            # Whatever a cleaner makes of the dressed text, one of both texts does not come back.
            for cleaner in (KEEP, TRIM, UNSTAMP, chosen_cleaner(chance)):
                road = (KEEP, dress, cleaner)
                self.assertIn(tried(is_still, road), (False, "too many"))
                self.assertTrue(stirred_with(road, text) is not None or stirred_with(road, other) is not None)
        self.assertGreater(many, 20)


class Roads(unittest.TestCase):
    def test_papers_and_what_they_show(self):
        chance = random.Random(63)
        for _ in range(60):
            road = chosen_road(chance)
            still = tried(is_still, road)
            if still == "too many":
                continue
            paper = still_paper(road)
            self.assertEqual((paper[0] == "still", is_still_paper(road, paper)), (still, True))
            if still:
                # A still road is silent, and no text is stirred with any dressing.
                self.assertIn(tried(is_silent, road), (True, "too many"))
                self.assertTrue(all(stirred_with(road, text) is None for text in all_texts(FEW, 2)))
                self.assertEqual(greatest_signs(road, FEW), (FEW,))
            else:
                self.assertIs(comes_back(road, paper[1], paper[2]), False)
                self.assertIsNot(stirred_with(road, paper[1]), None)
                self.assertIn(tried(edits_pass, road, ()), (False, "too many"))
            told = tried(silent_paper, road)
            if told != "too many":
                self.assertIs(is_silent_paper(road, told), True)
            told = tried(edits_paper, road, ("a",))
            if told != "too many":
                self.assertIs(is_edits_paper(road, ("a",), told), True)

    def test_read_parts_make_the_same_roads(self):
        chance = random.Random(64)
        for _ in range(30):
            road = chosen_road(chance)
            again = tuple(read_dress(write_dress(part)) if isinstance(part, Dress) else read_cleaner(write_cleaner(part)) for part in road)
            self.assertEqual(again, road)
            self.assertEqual(tried(still_paper, again), tried(still_paper, road))
            self.assertEqual(tried(standings, again), tried(standings, road))
            self.assertEqual(tried(readable_paper, again[1]), tried(readable_paper, road[1]))
            if tried(still_paper, road) != "too many":
                self.assertIs(is_still_paper(again, still_paper(road)), True)

    def test_holes_made_narrower_keep_a_road_still(self):
        chance = random.Random(65)
        marks = []
        for _ in range(1500):
            dress = chosen_dress(chance, 1, 1)
            names = [name for name in dress.holes if dress.holes_of("ab_") and name in dress.holes_of("ab_")]
            if not names:
                continue
            name = chance.choice(names)
            cleaner = chosen_cleaner(chance)
            other = chosen_hole(chance)
            wider, narrower = (dress[name], other) if is_within(other, dress[name]) else (other, dress[name])
            if not is_within(narrower, wider):
                continue
            answers = [(tried(is_still, (cleaner, dress.with_hole(name, hole), cleaner)), tried(is_readable, dress.with_hole(name, hole)))
                       for hole in (wider, narrower)]
            for wide, narrow in zip(*answers):
                if wide is True:
                    self.assertIn(narrow, (True, "too many"))
            marks.append(answers)
        self.assertGreater(len(marks), 20)

    def test_bars_are_narrower_holes(self):
        wide = STAMP.with_hole("who", Hole((tuple("abc"), 0, None)))
        self.assertIs(is_still((KEEP, wide, UNSTAMP)), False)
        self.assertEqual(least_bars((KEEP, wide, UNSTAMP), (("who", "a"), ("who", "b"), ("who", "c"))), ((("who", "c"),),))
        self.assertEqual(wide.with_hole("who", wide["who"].barred(("c",))), STAMP)


class Houses(unittest.TestCase):
    def test_houses_and_roads(self):
        chance = random.Random(66)
        calm = 0
        for _ in range(80):
            books = chosen_books(chance)
            again = {name: Lines.of(tuple((line[0], read_dress(write_dress(line[1])), read_cleaner(write_cleaner(line[2]))) for line in lines))
                     for name, lines in books.items()}
            self.assertEqual(again, books)
            book = list(books)[0]
            history = stirring_history(books, book)
            self.assertIs(nothing_stirs(again, book), history is None)
            self.assertEqual(roads_of(again), roads_of(books))
            calm += history is None
            if history is None:
                self.assertTrue(all(is_still(road_of(books, triple)) for triple in roads_of(books)))
                continue
            self.assertEqual(read_history(write_history(history)), history)
            self.assertIs(is_stirring_history(again, book, history), True)
            # Without its last deed it fits, and the last one shows the text that does not come back.
            house = lived(books, book, history[:-1])
            before = house.stored[history[-1][1]]
            road = self.road_of_history(books, book, history)
            self.assertEqual(stirred_with(road, history[[deed[0] for deed in history].index("put")][2]) is None, False)
            try:
                self.assertIs(house.store(history[-1][1]), True)
                self.assertNotEqual(house.stored[history[-1][1]], before)
            except Refused as error:
                self.assertEqual(error.text, house.copies[history[-1][1]])
        self.assertGreater(calm, 10)

    def road_of_history(self, books, book, history):
        """The road that the text of a history goes along."""
        house = House(books, book)
        parts = []
        for deed in history:
            lines = books[house.book]
            if deed[0] == "put":
                parts.append(lines.cleaner_of(deed[1]))
            if deed[0] == "take":
                parts.append(lines.dress_of(deed[1]))
            if deed[0] == "store":
                parts.append(lines.cleaner_of(deed[1]))
            else:
                getattr(house, deed[0])(*deed[1:])
        return tuple(parts)

    def test_calm_houses_stay_as_they_are(self):
        # Each store of a copy, in any order of deeds, stores what was there.
        books = {"a": Lines(("*", PAD, TRIM), ("a*", PAD, TRIM)), "b": Lines(("*", PLAIN, TRIM), ("?", PAD, TRIM))}
        self.assertIs(nothing_stirs(books, "a"), True)
        chance = random.Random(67)
        for _ in range(300):
            house = House(books, "a")
            for _ in range(12):
                word = chance.choice(["use", "put", "take", "take", "store", "move"])
                path = chance.choice(["a", "b", "ab"])
                if word == "use":
                    house.use(chance.choice("ab"))
                elif word == "put":
                    house.put(path, chance.choice(["a_", "_", "$_a"]))
                elif word == "move" and path in house and path not in house.copies and "c" not in house:
                    house.move(path, "c")
                elif word == "take" and path in house:
                    many = len(books[house.book].dress_of(path).holes_of(house.stored[path]))
                    house.take(path, ("__",) * many)
                elif word == "store" and path in house.copies:
                    self.assertIs(house.store(path), False)

    def test_classes_of_paths_count_as_lines_do(self):
        chance = random.Random(68)
        for _ in range(40):
            books = chosen_books(chance)
            names = sorted(books)
            classes = path_classes(tuple(books[name] for name in names))
            for path, numbers in classes.items():
                self.assertEqual(tuple(books[name].number_of(path) for name in names), numbers)
            for path in all_texts("#ab", 3)[1:]:
                self.assertIn(tuple(books[name].number_of(path) for name in names), classes.values())


class NotTrue(unittest.TestCase):
    """What 0.20 says is not true."""

    def test_a_still_road_without_a_cleaner_for_all_texts(self):
        self.assertEqual((is_still((TRIM, PAD, TRIM)), is_readable(PAD)), (True, False))

    def test_a_silent_road_that_is_not_still(self):
        self.assertEqual((is_silent((KEEP, PAD, TRIM)), is_still((KEEP, PAD, TRIM))), (True, False))

    def test_a_still_road_on_which_edits_do_not_come_through(self):
        self.assertEqual((is_still((KEEP, STAMP, UNSTAMP)), edits_pass((KEEP, STAMP, UNSTAMP), ("$",))), (True, False))
        self.assertEqual((is_still((TRIM, PAD, TRIM)), edits_pass((TRIM, PAD, TRIM), ())), (True, False))

    def test_still_after_two_passes_and_not_after_one(self):
        self.assertEqual((settles(PAD, TRIM), is_still((KEEP, PAD, TRIM))), (True, False))

    def test_each_hole_alone(self):
        # A "b" behind an "a" is kept, and each of both holes alone gives but one of them.
        dress = Dress((({}, 0, (("hole", "x"), ("hole", "y"))),), {"x": Hole((("a",), 0, None)), "y": Hole((("b",), 0, None))})
        last = Cleaner((({("a", None): ("", 1), ("b", None): ("", 0)}, 0, ""), ({("a", None): ("", 1)}, 1, "")))
        first = Cleaner((({("a", None): ("", 0), ("b", None): ("", 0)}, 0, ""),))
        self.assertEqual(least_bars((first, dress, last), (("x", "a"), ("y", "b"))), ((("x", "a"),), (("y", "b"),)))
        self.assertIs(is_still((first, dress, last)), False)

    def test_fewer_lines(self):
        more = Lines(("a", PAD, TRIM), ("*", STAMP, UNSTAMP))
        self.assertEqual([nothing_stirs({"a": more}, "a"), nothing_stirs({"a": Lines(more[0])}, "a")], [True, False])


class OneTable(unittest.TestCase):
    def test_exactly_one_kind_of_paper_exists(self):
        # A table of a road that is not still is never right, whatever lags it has.
        for road in ((KEEP, PAD, TRIM), (KEEP, PAD, KEEP), (KEEP, PLAIN, only_with("a"))):
            rows = tuple((standing, None) for standing in standings(road))
            self.assertIs(is_still_paper(road, ("still", rows)), False)
        for dress in (PLAIN, STAMP):
            for text, other in itertools.combinations(all_texts("$a", 2), 2):
                for dressed in all_texts("$a:", 3):
                    self.assertIs(is_readable_paper(dress, ("mixed", text, other, dressed)), False)
