"""Roads on which one text alone is handed to the first dress.

A standing is a pair here: the number of signs that were told, and the number of a standing of the road.
"""

from cleandress.walk.courses import road_course
from cleandress.walk.graphs import RoadRules, road_gain


class TextRules:
    """The rules (see graphs) of a road whose first cleaner is plain and reads one text, of any length, alone.

    The steps of the road are worked out once for each of its standings, however often these come.
    """

    def __init__(self, road, text):
        self.text = text
        self.rules = RoadRules(road_course(road), road_gain)
        self.met = []
        self.numbers = {}
        self.rows = {}

    def number_of(self, standing):
        """The number of a standing of the road."""
        if standing not in self.numbers:
            self.numbers[standing] = len(self.met)
            self.met.append(standing)
        return self.numbers[standing]

    def how_many_first(self):
        """The number of the first standings."""
        return self.rules.how_many_first()

    def first_ones(self):
        """The list of the first standings."""
        return [(0, self.number_of(standing)) for standing in self.rules.first_ones()]

    def lags_at_first(self, standing):
        """The list of the lags with which a search begins in a first standing."""
        return self.rules.lags_at_first(self.met[standing[1]])

    def steps_from(self, standing):
        """The list of the steps from a standing."""
        told, number = standing
        if number not in self.rows:
            steps = self.rules.steps_from(self.met[number])
            self.rows[number] = [(self.number_of(reached), *step) for reached, *step in steps]
        sign = self.text[told:told + 1]
        steps = []
        for reached, more, other, cost, part, taken in self.rows[number]:
            if part > 0:
                steps.append(((told, reached), more, other, cost, part, taken))
            elif taken == sign:
                steps.append(((told + len(sign), reached), more, other, cost, part, taken))
        return steps

    def ends_at(self, standing):
        """Whether a standing is an end."""
        return self.rules.ends_at(self.met[standing[1]])


def path_along(rules, path):
    """A path with the standings of the road itself."""
    return [(rules.met[before[1]], part, taken, rules.met[behind[1]]) for before, part, taken, behind in path]
