"""Holes: the parts of a dress that are filled with what nobody knows in advance."""

from cleandress.base.integers import is_number
from cleandress.base.signs import are_signs, is_text
from cleandress.dress.readers import count_of, fillings_within, first_read_beyond, order_of, reader_of, reads
from cleandress.errors import InvalidHole, InvalidNumber, InvalidOperation, InvalidText

MAX_RUNS = 4
MAX_REPEATS = 3
MAX_FILLING = 40
MAX_COUNTED = 200


class Hole:
    """A hole of one to four runs (signs, low, high), which never changes."""

    def __init__(self, *runs):
        if not 1 <= len(runs) <= MAX_RUNS or not all([is_run(run) for run in runs]):
            raise InvalidHole("a hole has one to four runs (signs, low, high)")
        self._runs = runs
        self._reader = reader_of(runs)

    @classmethod
    def of(cls, runs):
        """The hole of a tuple of runs."""
        if not isinstance(runs, tuple):
            raise InvalidHole("runs must be a tuple")
        return cls(*runs)

    @property
    def runs(self):
        """The tuple of the runs."""
        return self._runs

    def shortest(self):
        """The first filling, by length, then in Python's order."""
        return "".join([signs[0] * low for signs, low, high in self._runs])

    def fillings(self, many):
        """All fillings of at most so many signs, each once, by length, then in Python's order."""
        if not is_number(many, 0, MAX_FILLING):
            raise InvalidNumber(many)
        yield from fillings_within(self._reader, many)

    def count(self, many):
        """How many fillings have just so many signs."""
        if not is_number(many, 0, MAX_COUNTED):
            raise InvalidNumber(many)
        return count_of(self._reader, many)

    def barred(self, signs):
        """The hole whose runs have not these signs."""
        if not are_signs(signs):
            raise InvalidText("signs must be an ascending tuple of signs")
        left = runs_without(self._runs, signs)
        return Hole(*left)

    def __contains__(self, value):
        return is_text(value) and reads(self._reader, value)

    def __eq__(self, other):
        return isinstance(other, Hole) and self._runs == other._runs

    def __len__(self):
        return len(self._runs)

    def __iter__(self):
        return iter(self._runs)

    def __str__(self):
        return f"hole of {len(self._runs)} runs"


def is_run(value):
    """Whether the value is a run: a triple (signs, low, high)."""
    if not isinstance(value, tuple) or len(value) != 3:
        return False
    signs, low, high = value
    if not are_signs(signs) or not signs or not is_number(low, 0, MAX_REPEATS):
        return False
    return high is None or is_number(high, max(low, 1), MAX_REPEATS)


def runs_without(runs, signs):
    """The list of what is left of some runs without these signs."""
    left = []
    for own, low, high in runs:
        kept = tuple([sign for sign in own if sign not in signs])
        if kept:
            left.append((kept, low, high))
        elif low > 0:
            raise InvalidOperation("a run that needs a sign has none left")
    if not left:
        raise InvalidOperation("no run is left")
    return left


def order_within(hole, many):
    """The order of the fillings of at most so many signs (see readers)."""
    return order_of(hole._reader, many)


def first_beyond(hole, other):
    """The first filling of a hole, by length, then in Python's order, that is none of the other, or None."""
    if not isinstance(hole, Hole) or not isinstance(other, Hole):
        raise InvalidHole("both must be holes")
    return first_read_beyond(hole._reader, other._reader)


def is_within(hole, other):
    """Whether each filling of a hole is one of the other."""
    return first_beyond(hole, other) is None


def are_alike(hole, other):
    """Whether two holes have the same fillings."""
    return is_within(hole, other) and is_within(other, hole)
