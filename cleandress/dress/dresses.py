"""Dresses: what is put into a text on its way out, with holes that are filled with what nobody knows in advance."""

from cleandress.base.integers import is_number
from cleandress.base.names import is_name
from cleandress.base.signs import check_passed, is_sign, is_text
from cleandress.dress.holes import Hole, order_within
from cleandress.dress.makers import can_give, slots_of
from cleandress.dress.patterns import OWN, are_rows_of_pieces, filled_rows, is_row, joined_pieces, names_in
from cleandress.dress.readers import filling_behind, filling_from
from cleandress.errors import InvalidDress, InvalidFilling, InvalidHole, InvalidNumber, InvalidOperation, InvalidText
from cleandress.errors import UnknownName

MAX_STATES = 4
MAX_PARTS = 3
MAX_HOLES = 8
MAX_FIXED = 3
MAX_FILLED = 6
SORTS = ("fixed", "own", "filled")


class Dress:
    """A dress of one to four states (moves, other, closing), which never changes."""

    def __init__(self, states, holes=None, *, opening=()):
        known = {} if holes is None else holes
        if not are_holes(known) or not are_states(states, known) or not is_edge_pattern(opening, known):
            raise InvalidDress("a dress has one to four states, a dict of holes, and an opening pattern")
        self._states = copied_states(states)
        self._holes = {name: known[name] for name in sorted(known)}
        self._opening = opening

    @property
    def states(self):
        """The tuple of the states, with dicts of their own."""
        return copied_states(self._states)

    @property
    def holes(self):
        """A dict from the names to the holes."""
        return dict(self._holes)

    @property
    def opening(self):
        """The pattern ahead of a text."""
        return self._opening

    def plain(self, text):
        """The ascending tuple of the indices of the signs of a text that are plain where they stand."""
        check_passed(text)
        rows = rows_along(self, text)[1:-1]
        return tuple([at for at, (pattern, _) in enumerate(rows) if pattern == OWN])

    def holes_of(self, text):
        """The tuple of the names of the holes that a dressing of a text fills, in order."""
        check_passed(text)
        return names_in(rows_along(self, text))

    def dressed(self, text, fillings):
        """The dressing of a text with these fillings."""
        check_passed(text)
        return dressing_by(self, text, fillings)

    def dressings(self, text, *, many=1):
        """All dressings whose fillings have at most so many signs each; the last hole's filling changes first."""
        check_passed(text)
        if not is_number(many, 0, MAX_FILLED):
            raise InvalidNumber(many)
        rows = rows_along(self, text)
        orders = {name: order_within(hole, many) for name, hole in self._holes.items()}
        row = [orders[name] for name in names_in(rows)]
        fillings = [filling_from(order, 0) for order in row]
        # A hole without a short filling leaves no dressing at all.
        following = None if None in fillings else fillings
        while following is not None:
            yield filled_rows(rows, following)
            following = fillings_behind(row, following)

    def is_dressing(self, text, value):
        """Whether the value is a dressing of a text of any length."""
        if not is_text(text):
            raise InvalidText("a text is needed")
        if not isinstance(value, tuple) or len(value) != len(text) + 2:
            return False
        rows = rows_along(self, text)
        return all([is_row(self._holes, pattern, sign, row) for (pattern, sign), row in zip(rows, value)])

    def makes(self, text, value):
        """Whether the value is a text, of any length, that some dressing of a text has as its dressed text."""
        check_passed(text)
        return is_text(value) and can_be_dressed(self, text, value)

    def with_hole(self, name, hole):
        """The dress with another hole under a name that it has."""
        if not is_name(name) or name not in self._holes:
            raise UnknownName(name)
        if not isinstance(hole, Hole):
            raise InvalidHole("a hole is needed")
        return Dress(self._states, {**self._holes, name: hole}, opening=self._opening)

    def __getitem__(self, name):
        if not is_name(name) or name not in self._holes:
            raise UnknownName(name)
        return self._holes[name]

    def __iter__(self):
        raise TypeError("a dress cannot be iterated over")

    def __eq__(self, other):
        if not isinstance(other, Dress):
            return False
        return (self._states, self._holes, self._opening) == (other._states, other._holes, other._opening)

    def __len__(self):
        return len(self._states)

    def __str__(self):
        return f"dress of {len(self._states)} states, {len(self._holes)} holes"


def are_holes(value):
    """Whether the value is a dict from at most eight names to holes."""
    if not isinstance(value, dict) or len(value) > MAX_HOLES:
        return False
    return all([is_name(name) and isinstance(hole, Hole) for name, hole in value.items()])


def are_states(value, holes):
    """Whether the value is a tuple of states of a dress with these holes."""
    if not isinstance(value, tuple) or not 1 <= len(value) <= MAX_STATES:
        return False
    return all([is_state(state, len(value), holes) for state in value])


def is_state(value, many, holes):
    """Whether the value is a state of a dress with so many states and with these holes."""
    if not isinstance(value, tuple) or len(value) != 3:
        return False
    moves, other, closing = value
    if not isinstance(moves, dict) or not is_number(other, 0, many - 1) or not is_edge_pattern(closing, holes):
        return False
    return all([is_sign(sign) and is_move(move, many, holes) for sign, move in moves.items()])


def is_move(value, many, holes):
    """Whether the value is a pair of a pattern and one of so many states."""
    if not isinstance(value, tuple) or len(value) != 2:
        return False
    pattern, state = value
    return is_pattern(pattern, holes) and is_number(state, 0, many - 1)


def is_edge_pattern(value, holes):
    """Whether the value can be an opening or a closing pattern, for which there is no own sign."""
    return is_pattern(value, holes) and ("own",) not in value


def is_pattern(value, holes):
    """Whether the value is a pattern with these holes."""
    if not isinstance(value, tuple) or len(value) > MAX_PARTS:
        return False
    return all([is_part(part, holes) for part in value]) and value.count(("own",)) <= 1


def is_part(value, holes):
    """Whether the value is a part of a pattern with these holes."""
    if not isinstance(value, tuple) or len(value) != 2:
        return value == ("own",)
    sort, told = value
    if sort == "hole":
        return is_name(told) and told in holes
    return sort == "fixed" and is_text(told) and 1 <= len(told) <= MAX_FIXED


def copied_states(states):
    """The same states with dicts of their own, whose keys ascend."""
    return tuple([({sign: moves[sign] for sign in sorted(moves)}, other, closing) for moves, other, closing in states])


def pattern_at(dress, state, sign):
    """The pair of the pattern for a sign in a state and of the state to which it leads."""
    moves, other, _ = dress._states[state]
    return moves.get(sign, (OWN, other))


def closing_at(dress, state):
    """The closing pattern of a state."""
    return dress._states[state][2]


def rows_along(dress, text):
    """The rows of a text of any length (see patterns)."""
    rows = [(dress._opening, "")]
    state = 0
    for sign in text:
        pattern, state = pattern_at(dress, state, sign)
        rows.append((pattern, sign))
    rows.append((closing_at(dress, state), ""))
    return rows


def dressing_by(dress, text, fillings):
    """The dressing of a text of any length with some fillings, if they are right."""
    if not isinstance(fillings, tuple):
        raise InvalidOperation("fillings must be a tuple")
    rows = rows_along(dress, text)
    names = names_in(rows)
    for index, name in enumerate(names):
        if index >= len(fillings) or fillings[index] not in dress[name]:
            raise InvalidFilling(index)
    if len(fillings) > len(names):
        raise InvalidOperation("there are more fillings than holes")
    return filled_rows(rows, fillings)


def dressing_with(dress, text, fillings):
    """The dressing of a text of any length with fillings that are right."""
    return filled_rows(rows_along(dress, text), fillings)


def can_be_dressed(dress, text, value):
    """Whether some dressing of a text has another text, both of any length, as its dressed text."""
    return can_give(slots_of(rows_along(dress, text), dress._holes), value)


def fillings_behind(orders, fillings):
    """The fillings that come next, in the orders of their holes, None behind the last ones."""
    for at in reversed(range(len(fillings))):
        following = filling_behind(orders[at], fillings[at])
        if following is not None:
            return fillings[:at] + [following] + [filling_from(order, 0) for order in orders[at + 1:]]
    return None


def plain_dress():
    """The dress that copies each sign."""
    return Dress((({}, 0, ()),))


def dressed_text(dressing):
    """The text of a tuple of rows of pieces."""
    if not are_rows_of_pieces(dressing, SORTS):
        raise InvalidOperation("a dressing is a tuple of rows of pieces")
    return joined_pieces(dressing)
