"""Graphs: all standings of a course that come, and the steps between them.

A step is a tuple (number, more, other, cost, part, taken): the number of the standing that comes, what is added to
both texts of the lag, what the step counts, the part that is due, and the sign that it reads or "". What is added and
what counts is told by a gain: a function of a course, a standing and a move from it.
"""

from cleandress.errors import TooMany
from cleandress.walk.courses import how_many_starts, is_end, starts_of
from cleandress.walk.moves import moves_at


class Graph:
    """The standings that come, those among them that are first and useful, and lists of the steps from each."""

    def __init__(self, course, found, starts, steps):
        self.course = course
        self.found = found
        self.starts = starts
        self.steps = steps
        self.useful = useful_marks(found, steps)


def graph_of(course, gain, limit):
    """The graph of a course, if not more standings come than the limit, None for no limit."""
    if limit is not None and how_many_starts(course) > limit:
        raise TooMany(limit)
    found = starts_of(course)
    starts = len(found)
    numbers = {standing: number for number, standing in enumerate(found)}
    steps = []
    while len(steps) < len(found):
        standing = found[len(steps)]
        row = []
        for move in moves_at(course, standing):
            part, taken, _, reached = move
            if reached not in numbers:
                if len(found) == limit:
                    raise TooMany(limit)
                numbers[reached] = len(found)
                found.append(reached)
            more, other, cost = gain(course, standing, move)
            row.append((numbers[reached], more, other, cost, part, taken))
        steps.append(row)
    return Graph(course, found, starts, steps)


def useful_marks(found, steps):
    """A list that tells for each standing whether steps lead from it to an end."""
    origins = [[] for _ in found]
    for number, row in enumerate(steps):
        for step in row:
            origins[step[0]].append(number)
    marks = [is_end(standing) for standing in found]
    waiting = [number for number, mark in enumerate(marks) if mark]
    while waiting:
        reached = waiting.pop()
        for number in origins[reached]:
            if not marks[number]:
                marks[number] = True
                waiting.append(number)
    return marks


def road_gain(course, standing, move):
    """What the last dress reads and the last cleaner writes; what the last dress reads counts."""
    part, taken, written, _ = move
    last = course.lasts[0]
    read = taken if part == last - 1 else ""
    return read, written if part == last else "", len(read)
