"""Still roads: each text that was handed to the last dress comes back, whatever is filled in."""

from cleandress.base.signs import is_text
from cleandress.clean.cleaners import Cleaner, plain_cleaner, result_of
from cleandress.dress.dresses import Dress, dressed_text, dressing_with
from cleandress.errors import InvalidCleaner, InvalidDress
from cleandress.judge.papers import are_right_rows, rows_of
from cleandress.judge.paths import fillings_on, text_on
from cleandress.judge.search import search_in
from cleandress.walk.courses import road_course
from cleandress.walk.graphs import RoadRules, road_gain
from cleandress.walk.roads import check_road, is_handed, told_along
from cleandress.walk.standings import road_graph


def is_still(road):
    """Whether a road is still."""
    return search_in(road_graph(road)).path is None


def still_paper(road):
    """A paper that shows that a road is still, or a walk in which the text does not come back.

    The walk has as few signs as possible handed to the last dress.
    """
    graph = road_graph(road)
    search = search_in(graph)
    if search.path is None:
        return "still", rows_of(graph, search)
    text = text_on(search.path)
    return "stirred", text, dressings_on(road, search.path, text)


def dressings_on(road, path, text):
    """The dressings on a path along a road."""
    dressings = []
    handed = result_of(road[0], text)
    for part in range(1, len(road), 2):
        fillings = fillings_on(path, road[part], part + 1)
        dressing = dressing_with(road[part], handed, fillings)
        dressings.append(dressing)
        handed = result_of(road[part + 1], dressed_text(dressing))
    return tuple(dressings)


def is_still_paper(road, value):
    """Whether the value is a right paper of a road, of one kind or the other."""
    check_road(road)
    if not isinstance(value, tuple):
        return False
    if len(value) == 2 and value[0] == "still":
        return are_right_rows(RoadRules(road_course(road), road_gain), value[1])
    return len(value) == 3 and value[0] == "stirred" and is_stirred(road, value[1], value[2])


def is_stirred(road, text, dressings):
    """Whether a text, of any length, does not come back along these dressings."""
    if not is_text(text):
        return False
    told = told_along(road, text, dressings)
    return told is not None and is_handed(road, told) and told[-1] != told[-3]


def settles(dress, cleaner):
    """Whether all is as it was behind the first pass through a dress and a cleaner."""
    if not isinstance(dress, Dress):
        raise InvalidDress("a dress is needed")
    if not isinstance(cleaner, Cleaner):
        raise InvalidCleaner("a cleaner is needed")
    return is_still((plain_cleaner(), dress, cleaner, dress, cleaner))
