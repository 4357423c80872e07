"""Pair standings: two walks of a dress that write one dressed text side by side.

A pair standing is a tuple (state, queue, state, queue): the places (see places) of both walks, one behind the other.
"""

from cleandress.base.integers import is_number
from cleandress.dress.places import first_place, is_reading, readings_at, writings_at
from cleandress.walk.forms import is_item
from cleandress.walk.lags import EVEN

FIRST = 0
SECOND = 1
BOTH = 2


class PairRules:
    """The rules (see graphs) of the pair standings of a dress; what either walk reads counts.

    The part of a step is FIRST or SECOND if this walk reads or its hole goes on, BOTH if both write a sign.
    """

    def __init__(self, dress):
        self.dress = dress

    def how_many_first(self):
        """The number of the first standings."""
        return 1

    def first_ones(self):
        """The list of the first standings."""
        place = first_place(self.dress)
        return [(*place, *place)]

    def lags_at_first(self, standing):
        """The list of the lags with which a search begins in a first standing."""
        return [EVEN]

    def steps_from(self, standing):
        """The list of the steps from a standing, in order."""
        first, second = standing[:2], standing[2:]
        if is_reading(first):
            told = readings_at(self.dress, first)
            steps = [((*place, *second), sign, "", len(sign), FIRST, sign) for sign, place in told]
        elif is_reading(second):
            told = readings_at(self.dress, second)
            steps = [((*first, *place), "", sign, len(sign), SECOND, sign) for sign, place in told]
        else:
            steps = writing_steps(first, writings_at(self.dress, first), second, writings_at(self.dress, second))
        return [step for step in steps if not is_stuck(step[0])]

    def ends_at(self, standing):
        """Whether a standing is the end."""
        return standing == ("end", (), "end", ())

    def knows(self, value):
        """Whether the value is a pair standing by its form."""
        if not isinstance(value, tuple) or len(value) != 4:
            return False
        return is_place(self.dress, value[:2]) and is_place(self.dress, value[2:])

    def lets_have(self, standing, lag):
        """Whether a row of a standing can have this lag, but for what follows from other rows."""
        return lag == EVEN or not self.ends_at(standing)


def writing_steps(first, writings, second, others):
    """The steps where no walk reads: the first hole goes on, the second one does, both write one sign."""
    steps = [((*place, *second), "", "", 0, FIRST, "") for sign, place in writings if sign == ""]
    steps.extend([((*first, *place), "", "", 0, SECOND, "") for sign, place in others if sign == ""])
    for sign, place in writings:
        for other, beside in others:
            if sign == other and sign != "":
                steps.append(((*place, *beside), "", "", 0, BOTH, sign))
    return steps


def is_stuck(standing):
    """Whether both queues begin with unlike signs, so that the walks cannot write the same."""
    _, queue, _, beside = standing
    if queue == () or beside == () or queue[0][0] == "hole" or beside[0][0] == "hole":
        return False
    return queue[0][1][0] != beside[0][1][0]


def is_place(dress, value):
    """Whether a tuple of two is a place of a walk of a dress by its form."""
    state, queue = value
    if not is_number(state, 0, len(dress) - 1) and state != "end":
        return False
    return isinstance(queue, tuple) and all([is_item(dress, False, item) for item in queue])
