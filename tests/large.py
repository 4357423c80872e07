"""Roads with just so many standings."""

from cleandress.base.signs import SIGNS
from cleandress.clean.cleaners import Cleaner, dropping, only_with
from cleandress.dress.dresses import Dress
from cleandress.dress.holes import Hole
from tests.examples import KEEP


def fixed(signs, many):
    """A pattern with so many fixed signs."""
    text = (signs * many)[:many]
    return tuple([("fixed", text[at:at + 3]) for at in range(0, many, 3)])


def large_road(first, signs, states, runs, views, closing, opening, holes, writer):
    """A road whose dress has so many states, puts holes ahead of some signs, and fixed signs at both ends."""
    hole = Hole(*[(("#", "$"), 3, 3)] * runs)
    pattern = (("hole", "x"),) * holes + (("own",),)
    rows = []
    for at in range(states):
        moves = {sign: (pattern, (at + place) % states) for place, sign in enumerate(signs)}
        rows.append((moves, at, fixed("#$#", closing) if at == 0 else ()))
    look = tuple([({sign: (at + place) % views for place, sign in enumerate(SIGNS)}, at) for at in range(views)])
    return first, Dress(tuple(rows), {"x": hole}, opening=fixed("#$#", opening)), Cleaner(writer, look=look)


def still_road(states, signs, runs, views, writers, closing, opening, holes, moved):
    """A still road: all that is put in is dropped, and all that is dropped is dropped ahead."""
    writer = []
    for at in range(writers):
        moves = {(sign, None): (sign, (at + 1) % writers) for sign in SIGNS[2:2 + moved]}
        writer.append(({**moves, ("#", None): ("", at), ("$", None): ("", at)}, at, ""))
    first = dropping(("#", "$"))
    return large_road(first, SIGNS[2:2 + signs], states, runs, views, closing, opening, holes, tuple(writer))


def stirred_road(first, states, signs, runs, views, writers, closing, opening, holes, moved):
    """A road that is not still: what is put in stays."""
    writer = []
    for at in range(writers):
        writer.append(({(sign, None): (sign, (at + 1) % writers) for sign in SIGNS[:moved]}, at, ""))
    return large_road(first, SIGNS[:signs], states, runs, views, closing, opening, holes, tuple(writer))


STILL_4000 = still_road(3, 10, 2, 3, 4, 8, 1, 1, 6)
STILL_4001 = still_road(4, 6, 4, 2, 4, 3, 0, 1, 6)
STIRRED_4000 = stirred_road(only_with("a"), 1, 11, 3, 3, 4, 5, 1, 1, 12)
STIRRED_4001 = stirred_road(KEEP, 4, 9, 3, 2, 2, 7, 0, 2, 7)
DOUBLE_4000 = still_road(1, 12, 2, 3, 2, 9, 0, 2, 0)
DOUBLE_4001 = still_road(3, 12, 3, 1, 4, 5, 2, 1, 10)
# With the one typed sign "a".
EDITS_4000 = still_road(3, 10, 2, 3, 4, 5, 1, 1, 6)
EDITS_4001 = still_road(3, 12, 2, 2, 3, 2, 2, 2, 7)
