"""Cleaners: what takes a dress off a text by what can be seen, or refuses the text.

Cleaners that the package makes can have any number of states and write texts of any length: only what callers pass is
limited. The limits are a triple: the most states of a look, the most states of a writer, and the most signs that are
written at once. None in its place stands for no limits.
"""

from cleandress.base.integers import is_number
from cleandress.base.signs import SIGNS, are_signs, check_passed, is_sign, is_text
from cleandress.errors import InvalidCleaner, InvalidText

MAX_LOOK = 3
MAX_WRITER = 4
MAX_WRITTEN = 2


class Cleaner:
    """A cleaner with a look and a writer, which never changes."""

    def __init__(self, writer, *, look=None, firsts=None):
        seen = (({}, 0),) if look is None else look
        first = (0,) * len(seen) if firsts is None and isinstance(seen, tuple) else firsts
        if not are_parts(writer, seen, first, (MAX_LOOK, MAX_WRITER, MAX_WRITTEN)):
            raise InvalidCleaner("a cleaner has a writer of one to four states, a look of one to three, and firsts")
        self._keep(writer, seen, first)

    def _keep(self, writer, look, firsts):
        """Sets what the cleaner consists of, with dicts of its own."""
        self._writer = tuple([(in_order(moves), other, last) for moves, other, last in writer])
        self._look = tuple([(in_order(moves), other) for moves, other in look])
        self._firsts = firsts
        self._origins = origins_of(self._look)

    @property
    def writer(self):
        """The tuple of the states of the writer, with dicts of their own."""
        return tuple([(copied(moves), other, last) for moves, other, last in self._writer])

    @property
    def look(self):
        """The tuple of the states of the look, with dicts of their own."""
        return tuple([(copied(moves), other) for moves, other in self._look])

    @property
    def firsts(self):
        """For each view at the beginning of a text the state in which the writer begins, or None."""
        return self._firsts

    def views(self, text):
        """The tuple of the views at all places of a text."""
        check_passed(text)
        return tuple(views_at(self, text))

    def walk(self, text):
        """The tuple of pairs (state, all that is written so far) ahead of each sign and at the end."""
        check_passed(text)
        return tuple(states_along(self, text))

    def views_that_come(self):
        """The ascending tuple of the states of the look that are the view at some place of some text."""
        found = {0: True}
        waiting = [0]
        while waiting:
            moves, other = self._look[waiting.pop()]
            for sign in SIGNS:
                view = moves.get(sign, other)
                if view not in found:
                    found[view] = True
                    waiting.append(view)
        return tuple(sorted(found))

    def __call__(self, text):
        check_passed(text)
        return result_of(self, text)

    def __contains__(self, value):
        return is_text(value) and self._firsts[views_at(self, value)[0]] is not None

    def __eq__(self, other):
        if not isinstance(other, Cleaner):
            return False
        return (self._writer, self._look, self._firsts) == (other._writer, other._look, other._firsts)

    def __len__(self):
        return len(self._writer)

    def __str__(self):
        return f"cleaner of {len(self._writer)} states, {len(self._look)} views"


class MadeCleaner(Cleaner):
    """A cleaner that the package makes, without limits."""

    def __init__(self, writer, look, firsts):
        if not are_parts(writer, look, firsts, None):
            raise InvalidCleaner("a cleaner has a writer, a look and firsts")
        self._keep(writer, look, firsts)


def are_parts(writer, look, firsts, limits):
    """Whether these are the writer, the look and the firsts of a cleaner within some limits."""
    if not is_look(look, limits) or not is_writer(writer, len(look), limits):
        return False
    return are_firsts(firsts, len(look), len(writer))


def is_look(value, limits):
    """Whether the value is a tuple of states of a look."""
    if not isinstance(value, tuple) or not value or (limits is not None and len(value) > limits[0]):
        return False
    return all([is_look_state(state, len(value)) for state in value])


def is_look_state(value, many):
    """Whether the value is a state of a look with so many states."""
    if not isinstance(value, tuple) or len(value) != 2:
        return False
    moves, other = value
    if not isinstance(moves, dict) or not is_number(other, 0, many - 1):
        return False
    return all([is_sign(sign) and is_number(state, 0, many - 1) for sign, state in moves.items()])


def is_writer(value, views, limits):
    """Whether the value is a tuple of states of a writer, for so many views."""
    if not isinstance(value, tuple) or not value or (limits is not None and len(value) > limits[1]):
        return False
    return all([is_writer_state(state, len(value), views, limits) for state in value])


def is_writer_state(value, many, views, limits):
    """Whether the value is a state of a writer with so many states, for so many views."""
    if not isinstance(value, tuple) or len(value) != 3:
        return False
    moves, other, last = value
    if not isinstance(moves, dict) or not is_number(other, 0, many - 1) or not is_written(last, limits):
        return False
    return all([is_seen_sign(key, views) and is_move(move, many, limits) for key, move in moves.items()])


def is_seen_sign(value, views):
    """Whether the value is a pair of a sign and one of so many views, or None."""
    if not isinstance(value, tuple) or len(value) != 2:
        return False
    sign, view = value
    return is_sign(sign) and (view is None or is_number(view, 0, views - 1))


def is_move(value, many, limits):
    """Whether the value is a pair of a text that can be written and one of so many states."""
    if not isinstance(value, tuple) or len(value) != 2:
        return False
    text, state = value
    return is_written(text, limits) and is_number(state, 0, many - 1)


def is_written(value, limits):
    """Whether the value is a text that can be written at once."""
    return is_text(value) and (limits is None or len(value) <= limits[2])


def are_firsts(value, views, many):
    """Whether the value is a tuple with one of so many states, or None, for each of so many views."""
    if not isinstance(value, tuple) or len(value) != views:
        return False
    return all([state is None or is_number(state, 0, many - 1) for state in value])


def in_order(moves):
    """A copy of some moves, whose keys are in the order of repr."""
    return {key: moves[key] for key in sorted(moves, key=lambda pair: repr(pair))}


def copied(moves):
    """A copy of some moves, in their order."""
    return {key: moves[key] for key in moves}


def origins_of(look):
    """A dict from pairs (sign, view) to the ascending lists of the views from which the sign leads to this view."""
    origins = {}
    for view, (moves, other) in enumerate(look):
        for sign in SIGNS:
            origins.setdefault((sign, moves.get(sign, other)), []).append(view)
    return origins


def origins_at(cleaner, sign, view):
    """The views, ascending, from which a sign leads to a view: those that can be behind the sign."""
    return cleaner._origins.get((sign, view), ())


def views_at(cleaner, text):
    """The list of the views at all places of a text of any length."""
    views = [0]
    for sign in text[::-1]:
        moves, other = cleaner._look[views[-1]]
        views.append(moves.get(sign, other))
    return views[::-1]


def written_at(cleaner, state, sign, view):
    """The pair of what the writer writes for a sign with a view behind it, and of the state that it goes to."""
    moves, other, _ = cleaner._writer[state]
    if (sign, view) in moves:
        return moves[sign, view]
    return moves.get((sign, None), (sign, other))


def last_at(cleaner, state):
    """What the writer writes at the end of a text."""
    return cleaner._writer[state][2]


def states_along(cleaner, text):
    """The list of pairs (state, all that is written so far) along a text of any length, empty if it is refused."""
    views = views_at(cleaner, text)
    state = cleaner._firsts[views[0]]
    if state is None:
        return []
    walk = [(state, "")]
    written = ""
    for sign, view in zip(text, views[1:]):
        piece, state = written_at(cleaner, state, sign, view)
        written = written + piece
        walk.append((state, written))
    return walk


def result_of(cleaner, text):
    """What the cleaner writes for a text of any length, None if it refuses the text."""
    views = views_at(cleaner, text)
    state = cleaner._firsts[views[0]]
    if state is None:
        return None
    pieces = []
    for sign, view in zip(text, views[1:]):
        piece, state = written_at(cleaner, state, sign, view)
        pieces.append(piece)
    return "".join(pieces) + last_at(cleaner, state)


def plain_cleaner():
    """The cleaner that copies each sign."""
    return Cleaner((({}, 0, ""),))


def dropping(signs):
    """A cleaner that drops these signs everywhere."""
    check_signs(signs)
    return Cleaner((({(sign, None): ("", 0) for sign in signs}, 0, ""),))


def trimming(signs):
    """A cleaner that drops these signs at the end of a text."""
    check_signs(signs)
    # The look stays in state 0 as long as there is nothing but these signs to the right.
    look = (({sign: 0 for sign in signs}, 1), ({}, 1))
    return Cleaner((({(sign, 0): ("", 0) for sign in signs}, 0, ""),), look=look)


def only_with(sign):
    """A cleaner that refuses texts without this sign, and changes nothing else."""
    if not is_sign(sign):
        raise InvalidText("a sign is needed")
    return Cleaner((({}, 0, ""),), look=(({sign: 1}, 0), ({}, 1)), firsts=(None, 0))


def check_signs(value):
    """Raises an error if the value is no ascending tuple of at least one sign."""
    if not are_signs(value) or not value:
        raise InvalidText("signs must be an ascending tuple of at least one sign")
