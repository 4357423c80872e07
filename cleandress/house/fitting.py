"""Fitting: how much of some path patterns fits a text.

For each pattern there is a row of places, one ahead of each of its characters and one behind it: a text comes to the
place n if the first n characters fit it. A set of places of all patterns is an integer with a bit for each of them.
"""

from cleandress.base.signs import SIGNS
from cleandress.dress.makers import bits_of, places_onward

STAR = "*"
ANY = "?"


class Fitting:
    """The places of some patterns: those of the empty text, and what signs do.

    The places in stays stay with each sign, those in takes go on with one, those in skips go on without any. What ends
    has the place behind each pattern.
    """

    def __init__(self, patterns):
        row = [character for pattern in patterns for character in pattern + " "]
        self.stays = bits_of([False] + [character == STAR for character in row])
        self.skips = bits_of([character == STAR for character in row])
        self.takes = {sign: bits_of([character in (sign, ANY) for character in row]) for sign in SIGNS}
        self.ends = [at for at, character in enumerate(row) if character == " "]
        starts = [at == 0 or row[at - 1] == " " for at in range(len(row))]
        self.first = places_onward(bits_of(starts), self.skips)


def places_behind(fitting, places, sign):
    """The places to which a sign leads from some places."""
    return places_onward((places & fitting.stays) | ((places & fitting.takes[sign]) << 1), fitting.skips)


def places_of(fitting, text):
    """The places to which a text leads."""
    places = fitting.first
    for sign in text:
        places = places_behind(fitting, places, sign)
    return places


def fitting_ones(fitting, places):
    """A list that tells for each pattern whether the whole of it fits."""
    return [(places >> end) & 1 == 1 for end in fitting.ends]


def last_one(marks):
    """The number of the last mark that is True, None if there is none."""
    found = [number for number, mark in enumerate(marks) if mark]
    return found[-1] if found else None
