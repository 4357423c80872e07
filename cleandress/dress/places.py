"""Places: where a walk of a dress is while it writes a dressed text.

A place is a pair (state, queue): a state of the dress, or "end", and the items (see items) still to be written.
"""

from cleandress.base.signs import SIGNS
from cleandress.dress.dresses import closing_at, pattern_at
from cleandress.dress.items import takes_of_item
from cleandress.dress.patterns import items_of


def first_place(dress):
    """The place at the beginning of a walk."""
    return 0, items_of(dress.opening, "")


def is_reading(place):
    """Whether a walk reads, or ends, before it writes more."""
    return place[1] == () and place[0] != "end"


def readings_at(dress, place):
    """What a walk that is due can read: pairs of a sign, or "" where it ends, and of the place that comes."""
    state = place[0]
    readings = []
    for sign in SIGNS:
        pattern, reached = pattern_at(dress, state, sign)
        readings.append((sign, (reached, items_of(pattern, sign))))
    readings.append(("", ("end", items_of(closing_at(dress, state), ""))))
    return readings


def writings_at(dress, place):
    """What a walk can write: pairs of a sign, or "" where a hole goes on, and of the place that comes."""
    state, queue = place
    if queue == ():
        return []
    return [(sign, (state, left + queue[1:])) for sign, left in takes_of_item(dress, queue[0])]
