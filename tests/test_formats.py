"""Texts of dresses, cleaners and histories, written and read (0.4, 0.13, 14.1 to 14.3, stage 14)."""

import random
import time
import unittest

from cleandress.base.signs import SIGNS
from cleandress.clean.cleaners import Cleaner, MadeCleaner, dropping, only_with, trimming
from cleandress.clean.making import cleaner_for
from cleandress.dress.dresses import Dress, dressed_text
from cleandress.dress.holes import Hole
from cleandress.errors import InvalidCleaner, InvalidDress, InvalidOperation, InvalidText, ParseError
from cleandress.judge.still import is_still
from cleandress.text import formats as module
from cleandress.text.formats import (read_cleaner, read_dress, read_history, write_cleaner, write_dress,
                                     write_history)
from tests.chosen import chosen_cleaner, chosen_dress
from tests.examples import KEEP, PAD, PLAIN, STAMP, TRIM, UNSTAMP
from tests.large_dresses import PAIRS_4000, SETS_200
from tests.test_dressings import TWO
from tests.test_readable import EDGES, FOUR, MARKED
from tests.values import every_value, short

EIGHT = Dress((({}, 0, (("hole", "h"), ("hole", "a"))),), {name: Hole((tuple(SIGNS[:many + 1]), 0, None), (("a",), many % 4, 3))
                                                          for many, name in enumerate("hgfedcba")})
LONG = Dress((({"a": ((), 0)}, 0, ()),), {"abcdefgh": Hole((("a",), 0, 1), (("b",), 1, 1), (("c",), 2, None), (("d",), 3, 3))}, opening=(("hole", "abcdefgh"),))
DRESSES = [PLAIN, STAMP, PAD, TWO, EDGES, FOUR, MARKED, EIGHT, LONG, PAIRS_4000]
SEEN = Cleaner((({("a", 2): ("", 0), ("a", None): ("b", 1), ("a", 0): ("#$", 1), ("#", None): ("", 0), ("#", 1): ("", 1)}, 1, "ab"), ({}, 0, "")),
               look=(({"b": 2, "a": 1}, 0), ({}, 1), ({}, 0)), firsts=(None, 1, None))
# The last view never comes.
ODD = Cleaner((({("a", 1): ("", 0)}, 0, ""),), look=(({}, 0), ({"a": 0}, 1)), firsts=(0, None))
WIDE = MadeCleaner(tuple([({("a", at): ("ab" * at, 0), ("a", None): ("", at)}, at, "_" * at) for at in range(12)]),
                   tuple([({sign: (at + 1) % 12 for sign in "ab"}, at) for at in range(12)]), (None,) * 11 + (11,))
CLEANERS = [KEEP, TRIM, UNSTAMP, SEEN, ODD, WIDE, only_with("a"), dropping(tuple(SIGNS)), trimming(("a", "b")), cleaner_for(STAMP), cleaner_for(SETS_200)]
HISTORIES = [(), (("use", "a"),), (("use", "abcdefgh"), ("put", "a", ""), ("put", "_" * 12, "a" * 3000)), (("move", "a", "b"),), (("store", "#"),),
             (("take", "a", ()),), (("take", "a", ("",)),), (("take", "a", ("", "ab", "_")), ("store", "a")), (("use", "put"),) * 40]


def line_changes(text, chance):
    """Texts with one change: lines exchanged, doubled, left out; words more and less; blanks, zeros, other signs."""
    lines = text.split("\n")
    at = chance.randrange(len(lines))
    other = chance.randrange(len(lines))
    made = [lines[:at] + lines[at + 1:], lines[:at] + [lines[at]] + lines[at:], lines[:at] + [""] + lines[at:], lines + [""], [""] + lines]
    swapped = list(lines)
    swapped[at], swapped[other] = swapped[other], swapped[at]
    made.append(swapped)
    words = lines[at].split(" ")
    place = chance.randrange(len(words))
    rows = [words[:place] + words[place + 1:], words[:place] + [words[place]] + words[place:], words[:place] + [""] + words[place:], words + [""],
            [""] + words, words[:-1], words + ["0"], words + ["own"], words + ["=a"], words + ["fixed", "=a"], words + ["fill", "x"], words + ["-"]]
    for word in ("-", "0", "00", "01", "1", "-1", "-0", "+1", "9", "=", "=a", "=ab", "=h", "a", "A", "own", "fill", "1.0", "None", "=a=", "==", "\u00b2", "1_0", "x\t"):
        rows.append(words[:place] + [word] + words[place + 1:])
        rows.append(words[:place] + [words[place] + word] + words[place + 1:])
    made += [lines[:at] + [" ".join(row)] + lines[at + 1:] for row in rows]
    return ["\n".join(row) for row in made]


def is_number(word):
    try:
        return str(int(word)) == word
    except ValueError:
        return False


def is_text(word):
    return word[:1] == "=" and set(word[1:]) <= set(SIGNS)


def is_sign(word):
    return is_text(word) and len(word) == 2


def is_entry(word):
    return word == "-" or is_number(word)


def told_pattern(words):
    words = list(words)
    while words:
        word = words.pop(0)
        if word == "own":
            continue
        if word == "fixed" and words and is_text(words[0]) or word == "fill" and words:
            words.pop(0)
            continue
        return False
    return True


def told_form(kind, words):
    """Whether a line has a form, by its words alone."""
    if not words or "" in words:
        return False
    word, rest = words[0], words[1:]
    if kind == "dress":
        if word == "hole":
            runs = rest[1:]
            return len(rest) % 3 == 1 and all(is_text(told) for told in runs[::3]) and all(map(is_number, runs[1::3])) and all(map(is_entry, runs[2::3]))
        if word in ("opening", "closing"):
            return told_pattern(rest)
        if word == "state":
            return len(rest) == 1 and is_number(rest[0])
        return word == "on" and len(rest) >= 2 and is_sign(rest[0]) and is_number(rest[1]) and told_pattern(rest[2:])
    if kind == "cleaner":
        forms = {"look": [is_number], "from": [is_sign, is_number], "write": [is_number, is_text], "on": [is_sign, is_entry, is_number, is_text]}
        if word == "firsts":
            return all(map(is_entry, rest))
        return word in forms and len(rest) == len(forms[word]) and all(form(told) for form, told in zip(forms[word], rest))
    if word == "use":
        return len(rest) == 1
    many = {"put": 2, "move": 2, "store": 1}
    return all(map(is_text, rest)) and (len(rest) == many[word] if word in many else word == "take" and len(rest) > 0)


STEPS = {
    "dress": {"": "hole opening", "hole": "hole opening", "opening": "state", "state": "on closing", "on": "on closing", "closing": "state"},
    "cleaner": {"": "look", "look": "look from firsts", "from": "look from firsts", "firsts": "write", "write": "write on", "on": "write on"},
    "history": {word: "use put move take store" for word in ("", "use", "put", "move", "take", "store")},
}


def told_error(kind, text):
    """The number of the first line that is wrong, None if each is right."""
    if kind == "history" and text == "":
        return None
    before = [""]
    for number, line in enumerate(text.split("\n")):
        words = line.split(" ")
        if not told_form(kind, words) or words[0] not in STEPS[kind][before[0]].split():
            return number
        if words[0] == before[0] and words[0] in ("hole", "on", "from") and not place(kind, before) < place(kind, words):
            return number
        before = words
    return None


def place(kind, words):
    if kind == "cleaner" and words[0] == "on":
        return words[1], words[2] == "-", 0 if words[2] == "-" else int(words[2])
    return words[1]


READ = {"dress": read_dress, "cleaner": read_cleaner, "history": read_history}
WRITE = {"dress": write_dress, "cleaner": write_cleaner, "history": write_history}
VALUES = {"dress": DRESSES, "cleaner": CLEANERS, "history": HISTORIES}


class Interface(unittest.TestCase):
    def test_defined_there(self):
        for value in (write_dress, write_cleaner, write_history, read_dress, read_cleaner, read_history):
            self.assertEqual(value.__module__, module.__name__)


class Written(unittest.TestCase):
    def test_dresses(self):
        self.assertEqual(write_dress(PLAIN).split("\n"), ["opening", "state 0", "closing"])
        self.assertEqual(write_dress(STAMP).split("\n"),
                         ["hole who =ab 0 -", "opening", "state 0", "on =$ 0 own fill who fixed =:", "closing"])
        self.assertEqual(write_dress(TWO).split("\n"),
                         ["hole x =a 0 -", "hole y =01 1 1", "opening fill x fixed =#", "state 0", "on =a 1 own fill x", "on =b 0 own", "on =c 0",
                          "closing fixed =e", "state 0", "on =a 0 own", "on =b 1 fill y own fixed =_", "closing fill y fill y"])
        self.assertEqual(write_dress(LONG).split("\n")[0], "hole abcdefgh =a 0 1 =b 1 1 =c 2 - =d 3 3")
        # Moves by their signs, holes by their names, however they were passed.
        turned = Dress((({"b": ((), 0), "#": ((), 0), "_": ((), 0)}, 0, ()),), {"b": Hole((("a",), 0, 1)), "a": Hole((("#", "a"), 0, None))})
        self.assertEqual(write_dress(turned).split("\n"),
                         ["hole a =#a 0 -", "hole b =a 0 1", "opening", "state 0", "on =# 0", "on =_ 0", "on =b 0", "closing"])

    def test_names_that_are_words_of_lines(self):
        names = ("own", "fixed", "fill", "hole", "opening", "on", "closing", "state")
        dress = Dress((({"a": ((("hole", "own"), ("own",), ("hole", "fixed")), 0)}, 0, (("hole", "fill"), ("hole", "hole"))),),
                      {name: Hole((("a",), 0, None)) for name in names}, opening=(("hole", "opening"), ("fixed", "a"), ("hole", "own")))
        text = write_dress(dress)
        self.assertIn("on =a 0 fill own own fill fixed", text.split("\n"))
        self.assertIn("opening fill opening fixed =a fill own", text.split("\n"))
        self.assertEqual(read_dress(text), dress)

    def test_cleaners(self):
        self.assertEqual(write_cleaner(KEEP).split("\n"), ["look 0", "firsts 0", "write 0 ="])
        self.assertEqual(write_cleaner(SEEN).split("\n"),
                         ["look 0", "from =a 1", "from =b 2", "look 1", "look 0", "firsts - 1 -", "write 1 =ab", "on =# 1 1 =", "on =# - 0 =",
                          "on =a 0 1 =#$", "on =a 2 0 =", "on =a - 1 =b", "write 0 ="])
        # Views go by as numbers, not as words.
        moves = {("a", view): ("", 0) for view in (None, 10, 9, 0, 2)}
        many = MadeCleaner(((moves, 0, ""),), (({}, 0),) * 11, (0,) * 11)
        self.assertEqual([line.split(" ")[2] for line in write_cleaner(many).split("\n") if line.startswith("on")], ["0", "2", "9", "10", "-"])

    def test_histories(self):
        self.assertEqual([write_history(history) for history in HISTORIES[:2] + HISTORIES[3:8]],
                         ["", "use a", "move =a =b", "store =#", "take =a", "take =a =", "take =a = =ab =_\nstore =a"])
        self.assertEqual(write_history(HISTORIES[2]), "use abcdefgh\nput =a =\nput =____________ =" + "a" * 3000)

    def test_errors(self):
        for value in every_value():
            if not isinstance(value, Dress):
                with self.assertRaises(InvalidDress):
                    write_dress(value)
            if not isinstance(value, Cleaner):
                with self.assertRaises(InvalidCleaner):
                    write_cleaner(value)
            if value != ():
                with self.assertRaises(InvalidOperation):
                    write_history(value)
            with self.assertRaises(InvalidOperation):
                write_history((value,))
        for history in ((("use", "a"),) * 41, [("use", "a")], (("use", "A"),), (("put", "a"),), (("take", "a", ["b"]),), (("put", "", "a"),)):
            with self.assertRaises(InvalidOperation):
                write_history(history)


class ReadBack(unittest.TestCase):
    def test_equal(self):
        for kind, values in VALUES.items():
            for value in values:
                text = WRITE[kind](value)
                self.assertEqual(READ[kind](text), value)
                self.assertEqual(WRITE[kind](READ[kind](text)), text)

    def test_chosen_ones(self):
        chance = random.Random(51)
        for _ in range(300):
            dress = chosen_dress(chance, 4, 3)
            cleaner = chosen_cleaner(chance, 3, 4)
            for kind, value in (("dress", dress), ("cleaner", cleaner)):
                text = WRITE[kind](value)
                self.assertEqual((READ[kind](text), WRITE[kind](READ[kind](text))), (value, text))

    def test_like_what_was_written(self):
        dress, cleaner = read_dress(write_dress(STAMP)), read_cleaner(write_cleaner(UNSTAMP))
        self.assertEqual(dressed_text(dress.dressed("$", ("ab",))), "$ab:")
        self.assertEqual((cleaner("$ab:b"), len(cleaner), str(cleaner)), ("$b", 2, "cleaner of 2 states, 1 views"))
        self.assertIs(is_still((KEEP, dress, cleaner)), True)
        made = read_cleaner(write_cleaner(cleaner_for(STAMP)))
        self.assertEqual((made("$ab:b"), made("$"), made == cleaner_for(STAMP)), ("$b", None, True))
        self.assertIs(is_still((made, dress, made)), True)
        self.assertEqual(read_cleaner(write_cleaner(WIDE))("a" * 11), WIDE("a" * 11))

    def test_in_reasonable_time(self):
        begin = time.perf_counter()
        large = MadeCleaner(tuple([({(sign, view): ("ab", at) for sign in SIGNS for view in range(20)}, at, "") for at in range(100)]),
                            tuple([({sign: at for sign in SIGNS}, at) for at in range(20)]), (0,) * 20)
        self.assertEqual(read_cleaner(write_cleaner(large)), large)
        self.assertLess(time.perf_counter() - begin, 10)

    def test_no_strings(self):
        for value in every_value():
            if not isinstance(value, str):
                for function in READ.values():
                    with self.assertRaises(InvalidText):
                        function(value)

    def wrong(self, kind, lines, number):
        text = "\n".join(lines)
        with self.assertRaises(ParseError) as held:
            READ[kind](text)
        self.assertEqual(held.exception.number, number, short(text))
        # The other way to tell agrees.
        told = told_error(kind, text)
        self.assertEqual(len(lines) if told is None else told, number)

    def test_wrong_dresses(self):
        right = write_dress(TWO).split("\n")
        self.wrong("dress", [""], 0)
        self.wrong("dress", ["", *right], 0)
        self.wrong("dress", [*right, ""], 12)
        self.wrong("dress", right[:4] + [""] + right[4:], 4)
        # What is left out.
        self.wrong("dress", right[:2] + right[3:], 2)
        self.wrong("dress", right[:3] + right[4:], 3)
        self.wrong("dress", right[:7] + right[8:], 7)
        self.wrong("dress", right[:-1], 11)
        self.wrong("dress", right[:3], 3)
        self.wrong("dress", right[:4], 4)
        self.wrong("dress", right[1:], 11)
        # What is doubled, or stands elsewhere.
        self.wrong("dress", right[:1] + right, 1)
        self.wrong("dress", [right[1], right[0], *right[2:]], 1)
        self.wrong("dress", right[:3] + right[2:], 3)
        self.wrong("dress", right[:5] + right[4:], 5)
        self.wrong("dress", right[:4] + [right[5], right[4]] + right[6:], 5)
        self.wrong("dress", right[:8] + right[7:], 8)
        self.wrong("dress", right[2:4] + right[:2] + right[4:], 2)
        self.wrong("dress", right + right[:1], 12)

    def test_wrong_lines_of_dresses(self):
        right = write_dress(TWO).split("\n")
        for line in ("hole", "hole x =a 0", "hole x =a 0 - =b", "hole x =a - 0", "hole x =h 0 -", "hole x a 0 -", "hole  x =a 0 -", "hole x =a 0 - ",
                     " hole x =a 0 -", "hole x =a 00 -", "hole x =a 0 01", "hole x =a +0 -", "hole x =a -0 -", "Hole x =a 0 -", "hole x =a 0 None", "hole ", "hole  =a 0 -"):
            self.wrong("dress", [line, *right[1:]], 0)
        # These have the form, but the whole is no dress.
        for line in ("hole x", "hole x =ba 0 -", "hole x =aa 0 -", "hole x = 0 -", "hole x =a 4 -", "hole x =a -1 -", "hole x =a 2 1", "hole x =a 0 0",
                     "hole X =a 0 -", "hole w =a 0 -", "hole x =a 0 " + "9" * 60, "hole =a =a 0 -", "hole - =a 0 -", "hole x =a 0 - =a 0 - =a 0 - =a 0 - =a 0 -"):
            self.wrong("dress", [line, *right[1:]], 12)
        for line in ("opening own fixed", "opening fixed a", "opening fixed =h", "opening fill", "opening fill ", "opening x", "opening  own", "opening "):
            self.wrong("dress", right[:2] + [line] + right[3:], 2)
        for line in ("opening own", "opening fixed =", "opening fixed =abcd", "opening fill z", "opening fill fill", "opening fixed =a fixed =a fixed =a fixed =a"):
            self.wrong("dress", right[:2] + [line] + right[3:], 12)
        for line in ("state", "state -", "state 0 0", "state =0", "state 00", "state x"):
            self.wrong("dress", right[:3] + [line] + right[4:], 3)
        for line in ("state 2", "state -1", "state " + "1" * 300):
            self.wrong("dress", right[:3] + [line] + right[4:], 12)
        for line in ("on =a", "on a 0", "on xa 0 own", "on aa 0 own", "on =aa 0", "on = 0", "on =a - own", "on =a 0 Own", "on =a 01", "on"):
            self.wrong("dress", right[:4] + [line] + right[5:], 4)
        for line in ("on =a 2 own", "on =a 0 own own", "on =a -3", "on =a 0 fill own", "on =a 0 own own own own"):
            self.wrong("dress", right[:4] + [line] + right[5:], 12)
        for line in ("closing own", "closing fill xx", "closing fixed ="):
            self.wrong("dress", right[:7] + [line] + right[8:], 12)
        self.wrong("dress", ["opening"] + ["state 0", "closing"] * 5, 11)
        # A last state without a closing pattern is none, though no other one leads to it.
        self.wrong("dress", ["opening", "state 0", "closing", "state 0"], 4)
        self.wrong("dress", ["opening", "state 0", "closing", "state 0", "on =a 0 own"], 5)
        holes = ["hole " + name + " =a 0 -" for name in "abcdefghi"]
        self.wrong("dress", holes + ["opening", "state 0", "closing"], 12)
        self.assertEqual(len(read_dress("\n".join(holes[1:] + ["opening", "state 0", "closing"])).holes), 8)
        # The first wrong line counts.
        self.wrong("dress", right[:4] + ["on =a", "closing x"] + right[6:], 4)
        self.wrong("dress", ["hole X =a 0 -", "hole Y", "opening x"] + right[3:], 2)

    def test_wrong_cleaners(self):
        right = write_cleaner(SEEN).split("\n")
        self.wrong("cleaner", [""], 0)
        self.wrong("cleaner", right[5:], 0)
        self.wrong("cleaner", right[1:], 0)
        self.wrong("cleaner", right[:5] + right[6:], 5)
        self.wrong("cleaner", right[:6], 6)
        self.wrong("cleaner", right[:5], 5)
        self.wrong("cleaner", right[:6] + right[7:], 6)
        self.wrong("cleaner", [right[0], right[2], right[1], *right[3:]], 2)
        self.wrong("cleaner", right[:2] + right[1:], 2)
        self.wrong("cleaner", right[:6] + right[5:], 6)
        self.wrong("cleaner", right + right[:1], 13)
        self.wrong("cleaner", right + right[5:6], 13)
        self.wrong("cleaner", right + [""], 13)
        for one, other in ((7, 8), (8, 9), (9, 10), (10, 11)):
            swapped = list(right)
            swapped[one], swapped[other] = right[other], right[one]
            self.wrong("cleaner", swapped, other)
        self.wrong("cleaner", ["look 0", "firsts -"], 2)
        for line in ("look", "look -", "look 0 0", "look =0", "look 00", "Look 0"):
            self.wrong("cleaner", [line, *right[1:]], 0)
        for line in ("look 3", "look -1", "look " + "7" * 60):
            self.wrong("cleaner", [line, *right[1:]], 13)
        for line in ("from =a", "from a 1", "from =ab 1", "from = 1", "from =a -", "from =a 1 1"):
            self.wrong("cleaner", [right[0], line, *right[2:]], 1)
        for line in ("firsts", "firsts -", "firsts 0 0", "firsts 0 0 0 0", "firsts 0 0 2", "firsts -1 - -"):
            self.wrong("cleaner", right[:5] + [line] + right[6:], 13)
        for line in ("firsts =", "firsts - - +1", "firsts  - -", "firsts x"):
            self.wrong("cleaner", right[:5] + [line] + right[6:], 5)
        for line in ("write 1", "write =ab", "write 1 ab", "write - =ab", "write 1 =h", "write 1 =a =b"):
            self.wrong("cleaner", right[:6] + [line] + right[7:], 6)
        self.wrong("cleaner", right[:6] + ["write 2 =ab"] + right[7:], 13)
        for line in ("on =# 1 1", "on # 1 1 =", "on =# =1 1 =", "on =# 1 - =", "on =# 1 1 a", "on =## 1 1 =", "on =# 1 1 = ="):
            self.wrong("cleaner", right[:7] + [line] + right[8:], 7)
        for line in ("on =# -1 1 =", "on =# 3 1 =", "on =# 1 2 =", "on =# -" + "9" * 50 + " 1 ="):
            self.wrong("cleaner", right[:7] + [line] + right[8:], 13)
        # Views that cannot be are in order, too: as numbers, however long they are.
        self.wrong("cleaner", right[:7] + ["on =# " + "9" * 50 + " 1 =", "on =# 1" + "0" * 50 + " 1 ="] + right[8:], 14)
        self.wrong("cleaner", right[:7] + ["on =# 1" + "0" * 50 + " 1 =", "on =# " + "9" * 50 + " 1 ="] + right[8:], 8)
        self.wrong("cleaner", right[:7] + ["on =# -9 1 =", "on =# -10 1 ="] + right[8:], 8)

    def test_wrong_histories(self):
        self.assertEqual([read_history(""), read_history("use a")], [(), (("use", "a"),)])
        for line in ("use", "use a b", "use  a", "put =a", "put =a =b =c", "put a =b", "put =a b", "put =a =h", "move =a", "move =a b", "store", "store =a =b",
                     "store a", "take", "use ", "take ", "take a", "take =a b", "Use a", "undo", "undo 1", " use a", "use a ", "take =a  =b"):
            self.wrong("history", [line], 0)
            self.wrong("history", ["use a", line, "use"], 1)
        for line in ("use A", "use abcdefghi", "use =a", "use -", "put = =a", "put =aaaaaaaaaaaaa =", "move =a =", "move = =a", "store =", "take =", "take = =a"):
            self.wrong("history", [line], 1)
            self.wrong("history", ["use a", line, "use b"], 3)
        for number, text in ((0, "\n"), (1, "use a\n"), (0, "\nuse a"), (1, "use a\n\nuse a")):
            self.wrong("history", text.split("\n"), number)
        self.assertEqual(len(read_history("\n".join(["use a"] * 40))), 40)
        self.wrong("history", ["use a"] * 41, 41)
        self.wrong("history", ["use a"] * 41 + ["use"], 41)
        self.assertEqual(read_history("put =a =" + "a" * 3000), (("put", "a", "a" * 3000),))

    def test_one_change(self):
        chance = random.Random(52)
        counts = {}
        for kind, values in VALUES.items():
            for value in values + [chosen_dress(chance, 3, 3) if kind == "dress" else chosen_cleaner(chance, 3, 3) for _ in range(25) if kind != "history"]:
                text = WRITE[kind](value)
                for changed in line_changes(text, chance):
                    number = told_error(kind, changed)
                    try:
                        made = READ[kind](changed)
                    except ParseError as error:
                        self.assertEqual(error.number, len(changed.split("\n")) if number is None else number, (kind, changed[:300]))
                        counts[kind, number is None] = counts.get((kind, number is None), 0) + 1
                        continue
                    # What is read has just this text.
                    self.assertIs(number, None)
                    self.assertEqual(WRITE[kind](made), changed)
                    counts[kind, "read"] = counts.get((kind, "read"), 0) + 1
        self.assertEqual(len(counts), 9)
        self.assertGreater(min(counts.values()), 5)

    def test_other_strings(self):
        chance = random.Random(53)
        texts = [value for value in every_value() if isinstance(value, str)] + ["\n" * 4000, "opening\n" * 400, "use a\n" * 400]
        texts += ["".join(chance.choice("opening state 0\n=ab-") for _ in range(60)) for _ in range(500)]
        for text in texts:
            for kind, function in READ.items():
                if kind == "history" and text == "":
                    continue
                with self.assertRaises(ParseError) as held:
                    function(text)
                number = told_error(kind, text)
                self.assertEqual(held.exception.number, len(text.split("\n")) if number is None else number)
