"""Makers: which texts some rows of patterns can give.

The rows are a chain of slots, each for signs of a tuple. A slot of the kind ONE gives one of them, one of the kind
PERHAPS none or one, one of the kind MANY any number. A set of places in the chain is an integer with a bit for each
place, so that all places go on at once by a few operations, however many slots there are.
"""

ONE = 0
PERHAPS = 1
MANY = 2


def slots_of(rows, holes):
    """The slots of rows of patterns (see patterns): pairs (signs, kind)."""
    slots = []
    for pattern, sign in rows:
        for part in pattern:
            if part[0] == "hole":
                slots.extend(slots_of_hole(holes[part[1]]))
            else:
                text = sign if part[0] == "own" else part[1]
                slots.extend([((given,), ONE) for given in text])
    return slots


def slots_of_hole(hole):
    """The slots of a hole."""
    slots = []
    for signs, low, high in hole.runs:
        slots.extend([(signs, ONE)] * low)
        if high is None:
            slots.append((signs, MANY))
        else:
            slots.extend([(signs, PERHAPS)] * (high - low))
    return slots


def can_give(slots, text):
    """Whether a chain of slots can give a text."""
    free = bits_of([kind != ONE for _, kind in slots])
    held = bits_of([kind == MANY for _, kind in slots])
    fitting = {sign: bits_of([sign in signs for signs, _ in slots]) for sign in sorted(set(text))}
    places = places_onward(1, free)
    for sign in text:
        giving = places & fitting[sign]
        places = places_onward((giving & held) | ((giving - (giving & held)) << 1), free)
        if places == 0:
            return False
    return (places >> len(slots)) & 1 == 1


def bits_of(marks):
    """The integer with a bit for each mark that is True, the first one lowest."""
    return int("0" + "".join(["1" if mark else "0" for mark in marks[::-1]]), 2)


def places_onward(places, free):
    """Some places, and those to which they go on through slots that need not give anything."""
    # In each block of free slots the sum carries a bit from the first place in it to the place behind the block.
    return places | (((places & free) + free) ^ free)
