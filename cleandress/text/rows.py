"""Rows: what the lines of the text of a value tell, line by line, and the value that they make.

A row is a tuple (word, place, told): the first word of its line, what lines of this word ascend by, None if by nothing,
and what the line tells.
"""

from cleandress.clean.cleaners import MadeCleaner
from cleandress.dress.dresses import Dress
from cleandress.dress.holes import Hole
from cleandress.errors import InvalidDress
from cleandress.text.words import is_entry_word, is_number_word, is_sign_word, is_text_word, number_of_word
from cleandress.text.words import pattern_of_words

# How many texts follow that of the path; a text that is taken can have any number of fillings.
TEXTS_BEHIND = {"store": 0, "put": 1, "move": 1}


def dress_row(words):
    """The row of a line of the text of a dress, by its words; None if it has no form."""
    if not words:
        return None
    word, *rest = words
    if word in ("opening", "closing"):
        pattern = pattern_of_words(rest)
        return None if pattern is None else (word, None, pattern)
    if word == "hole":
        return hole_row(rest)
    if word == "state" and len(rest) == 1 and is_number_word(rest[0]):
        return word, None, number_of_word(rest[0])
    if word == "on" and len(rest) >= 2 and is_sign_word(rest[0]) and is_number_word(rest[1]):
        pattern = pattern_of_words(rest[2:])
        return None if pattern is None else (word, rest[0][1:], (pattern, number_of_word(rest[1])))
    return None


def hole_row(rest):
    """The row of a line of a hole, by the words behind the first one; None if it has no form."""
    if len(rest) % 3 != 1:
        return None
    runs = []
    for at in range(1, len(rest), 3):
        signs, low, high = rest[at:at + 3]
        if not is_text_word(signs) or not is_number_word(low) or not is_entry_word(high):
            return None
        runs.append((tuple(signs[1:]), number_of_word(low), number_of_word(high)))
    return "hole", rest[0], tuple(runs)


def dress_of_rows(rows):
    """The dress of its rows; raises an error if they make none."""
    holes = {}
    opening = ()
    states = []
    moves = {}
    other = None
    for word, place, told in rows:
        if word == "hole":
            holes[place] = Hole.of(told)
        elif word == "opening":
            opening = told
        elif word == "state":
            moves, other = {}, told
        elif word == "on":
            moves[place] = told
        else:
            states.append((moves, other, told))
    if rows[-1][0] != "closing":
        raise InvalidDress("the last state has no closing pattern")
    return Dress(tuple(states), holes, opening=opening)


def cleaner_row(words):
    """The row of a line of the text of a cleaner, by its words; None if it has no form."""
    if not words:
        return None
    word, *rest = words
    if word == "look" and len(rest) == 1 and is_number_word(rest[0]):
        return word, None, number_of_word(rest[0])
    if word == "from" and len(rest) == 2 and is_sign_word(rest[0]) and is_number_word(rest[1]):
        return word, rest[0][1:], number_of_word(rest[1])
    if word == "firsts" and all([is_entry_word(entry) for entry in rest]):
        return word, None, tuple([number_of_word(entry) for entry in rest])
    if word == "write" and len(rest) == 2 and is_number_word(rest[0]) and is_text_word(rest[1]):
        return word, None, (number_of_word(rest[0]), rest[1][1:])
    if word == "on" and len(rest) == 4:
        return write_row(rest)
    return None


def write_row(rest):
    """The row of a line of a move of a writer, by the four words behind the first one; None if it has no form."""
    sign, view, state, text = rest
    if not is_sign_word(sign) or not is_entry_word(view) or not is_number_word(state) or not is_text_word(text):
        return None
    key = (sign[1:], number_of_word(view))
    return "on", place_of_key(key), (key, (text[1:], number_of_word(state)))


def place_of_key(key):
    """What the keys of the moves of a writer ascend by: signs, then views as numbers, None as the last one."""
    sign, view = key
    return sign, view is None, 0 if view is None else view


def cleaner_of_rows(rows):
    """The cleaner of its rows; raises an error if they make none."""
    look = []
    firsts = None
    writer = []
    for word, place, told in rows:
        if word == "look":
            look.append(({}, told))
        elif word == "from":
            look[-1][0][place] = told
        elif word == "firsts":
            firsts = told
        elif word == "write":
            writer.append(({}, *told))
        else:
            key, move = told
            writer[-1][0][key] = move
    return MadeCleaner(tuple(writer), tuple(look), firsts)


def deed_row(words):
    """The row of a line of the text of a history, by its words; None if it has no form."""
    if len(words) < 2:
        return None
    word, told, *rest = words
    if word == "use":
        return None if rest else (word, None, (word, told))
    if not all([is_text_word(text) for text in words[1:]]):
        return None
    texts = tuple([text[1:] for text in rest])
    if word == "take":
        return word, None, (word, told[1:], texts)
    if len(rest) != TEXTS_BEHIND.get(word):
        return None
    return word, None, (word, told[1:], *texts)
