"""Silent roads: what is stored tells nothing of what was filled in."""

from cleandress.base.signs import is_text
from cleandress.clean.cleaners import result_of
from cleandress.dress.dresses import dressed_text, dressing_with
from cleandress.judge.papers import are_right_rows, rows_of
from cleandress.judge.paths import fillings_on, text_on
from cleandress.judge.search import search_in
from cleandress.walk.courses import double_course
from cleandress.walk.graphs import RoadRules, graph_of
from cleandress.walk.roads import check_short_road
from cleandress.walk.standings import MAX_STANDINGS


def is_silent(road):
    """Whether a road is silent."""
    return search_in(double_graph(road)).path is None


def silent_paper(road):
    """A paper that shows that a road is silent, or two dressings of one text with different results.

    The text that is dressed has as few signs as possible.
    """
    graph = double_graph(road)
    search = search_in(graph)
    if search.path is None:
        return "silent", rows_of(graph, search)
    text = text_on(search.path)
    handed = result_of(road[0], text)
    both = [dressing_with(road[1], handed, fillings_on(search.path, road[1], part)) for part in (2, 3)]
    return ("tells", text, *both)


def is_silent_paper(road, value):
    """Whether the value is a right paper of a road, of one kind or the other."""
    check_short_road(road)
    if not isinstance(value, tuple):
        return False
    if len(value) == 2 and value[0] == "silent":
        return are_right_rows(RoadRules(double_course(road), double_gain), value[1])
    return len(value) == 4 and value[0] == "tells" and tells(road, value[1], value[2], value[3])


def tells(road, text, dressing, other):
    """Whether two dressings of what the first cleaner writes for a text of any length have different results."""
    if not is_text(text):
        return False
    handed = result_of(road[0], text)
    if handed is None or not road[1].is_dressing(handed, dressing) or not road[1].is_dressing(handed, other):
        return False
    return result_of(road[2], dressed_text(dressing)) != result_of(road[2], dressed_text(other))


def double_graph(road):
    """The graph of the double standings of a road."""
    check_short_road(road)
    return graph_of(RoadRules(double_course(road), double_gain), MAX_STANDINGS)


def double_gain(course, standing, move):
    """What both last cleaners write; what the dress reads counts."""
    part, taken, written, _ = move
    first, second = course.lasts
    return written if part == first else "", written if part == second else "", len(taken) if part == 1 else 0
