"""Graphs: all standings that come, and the steps between them.

What standings there are and how they go on is told by rules: an object with the methods of RoadRules. A step is a tuple
(number, more, other, cost, part, taken): the number of the standing that comes, what is added to both texts of the lag,
what the step counts, the part that is due, and the sign that it reads or "".
"""

from cleandress.errors import TooMany
from cleandress.walk.courses import how_many_refuse, how_many_starts, is_end, starts_of
from cleandress.walk.forms import has_form
from cleandress.walk.lags import EVEN
from cleandress.walk.moves import moves_at


class RoadRules:
    """The rules of a course, with a gain: a function of a course, a standing and a move from it.

    The gain is what the move adds to both texts of the lag, and what it counts.
    """

    def __init__(self, course, gain):
        self.course = course
        self.gain = gain

    def how_many_first(self):
        """The number of the first standings, without making them."""
        return how_many_starts(self.course)

    def first_ones(self):
        """The list of the first standings."""
        return starts_of(self.course)

    def lags_at_first(self, standing):
        """The list of the lags with which a search begins in a first standing: none where nothing can end wrong."""
        refusing = how_many_refuse(self.course, standing)
        return [] if refusing == 2 else [EVEN if refusing == 0 else None]

    def steps_from(self, standing):
        """The list of the steps from a standing, in order, with the standing that comes in the place of its number."""
        gain = self.gain
        steps = []
        for move in moves_at(self.course, standing):
            part, taken, _, reached = move
            more, other, cost = gain(self.course, standing, move)
            steps.append((reached, more, other, cost, part, taken))
        return steps

    def ends_at(self, standing):
        """Whether a standing is an end."""
        return is_end(standing)

    def knows(self, value):
        """Whether the value is a standing by its form."""
        return has_form(self.course, value)

    def lets_have(self, standing, lag):
        """Whether a row of a standing can have this lag, but for what follows from other rows."""
        refusing = how_many_refuse(self.course, standing)
        if is_end(standing):
            return lag is None if refusing == 2 else refusing == 0 and lag == EVEN
        return refusing == 0 or lag is None


class Graph:
    """The standings that come, the steps from each, and marks that tell which are ends and which are useful.

    The starts are pairs (number, lag), with which a search begins.
    """

    def __init__(self, found, starts, steps, ends):
        self.found = found
        self.starts = starts
        self.steps = steps
        self.ends = ends
        self.useful = useful_marks(steps, ends)


def graph_of(rules, limit):
    """The graph by some rules, if not more standings come than the limit, None for no limit."""
    if limit is not None and rules.how_many_first() > limit:
        raise TooMany(limit)
    found = rules.first_ones()
    starts = [(number, lag) for number, standing in enumerate(found) for lag in rules.lags_at_first(standing)]
    numbers = {standing: number for number, standing in enumerate(found)}
    steps = []
    while len(steps) < len(found):
        row = []
        for reached, *told in rules.steps_from(found[len(steps)]):
            if reached not in numbers:
                if len(found) == limit:
                    raise TooMany(limit)
                numbers[reached] = len(found)
                found.append(reached)
            row.append((numbers[reached], *told))
        steps.append(row)
    return Graph(found, starts, steps, [rules.ends_at(standing) for standing in found])


def useful_marks(steps, ends):
    """A list that tells for each standing whether steps lead from it to an end."""
    origins = [[] for _ in steps]
    for number, row in enumerate(steps):
        for step in row:
            origins[step[0]].append(number)
    marks = list(ends)
    waiting = [number for number, mark in enumerate(marks) if mark]
    while waiting:
        reached = waiting.pop()
        for number in origins[reached]:
            if not marks[number]:
                marks[number] = True
                waiting.append(number)
    return marks


def road_gain(course, standing, move):
    """What the last dress reads and the last cleaner writes; what the last dress reads counts."""
    part, taken, written, _ = move
    last = course.lasts[0]
    read = taken if part == last - 1 else ""
    return read, written if part == last else "", len(read)
