"""Patterns, and the rows of pieces that are made by them.

The rows of a text are given as a list of pairs (pattern, sign): the opening pattern, the pattern of each sign,
and the closing pattern. The first and the last one have "" in the place of the sign.
"""

from cleandress.base.signs import is_text

OWN = (("own",),)


def items_of(pattern, sign):
    """What a pattern puts into the queue of a cleaner, for a sign."""
    items = []
    for part in pattern:
        if part[0] == "hole":
            items.append(("hole", part[1], 0, 0))
        elif part[0] == "own":
            items.append(("own", sign))
        else:
            items.append(part)
    return tuple(items)


def names_in(rows):
    """The names of the holes of some rows, in order."""
    return tuple([part[1] for pattern, _ in rows for part in pattern if part[0] == "hole"])


def filled_rows(rows, fillings):
    """The dressing with these rows and fillings."""
    dressing = []
    at = 0
    for pattern, sign in rows:
        pieces = []
        for item in items_of(pattern, sign):
            if item[0] == "hole":
                pieces.append(("filled", fillings[at]))
                at = at + 1
            else:
                pieces.append(item)
        dressing.append(tuple(pieces))
    return tuple(dressing)


def is_row(holes, pattern, sign, value):
    """Whether the value is a row of pieces for a pattern and a sign."""
    if not isinstance(value, tuple) or len(value) != len(pattern):
        return False
    items = items_of(pattern, sign)
    return all([is_piece(holes, item, piece) for item, piece in zip(items, value)])


def is_piece(holes, item, value):
    """Whether the value is a piece for an item."""
    if item[0] != "hole":
        return value == item
    if not isinstance(value, tuple) or len(value) != 2 or value[0] != "filled":
        return False
    return value[1] in holes[item[1]]


def are_rows_of_pieces(value, sorts):
    """Whether the value is a tuple of rows of pairs of one of these sorts and a text."""
    if not isinstance(value, tuple) or not all([isinstance(row, tuple) for row in value]):
        return False
    return all([is_sorted_piece(piece, sorts) for row in value for piece in row])


def is_sorted_piece(value, sorts):
    """Whether the value is a pair of one of these sorts and a text."""
    return isinstance(value, tuple) and len(value) == 2 and value[0] in sorts and is_text(value[1])


def joined_pieces(rows):
    """The texts of all pieces of some rows, one behind the other."""
    return "".join([piece[1] for row in rows for piece in row])
