"""Standings of roads: where all parts are, and how the road goes on."""

from cleandress.base.signs import check_passed
from cleandress.errors import InvalidOperation, InvalidStanding
from cleandress.walk.courses import road_course, starts_of
from cleandress.walk.forms import has_form
from cleandress.walk.graphs import RoadRules, graph_of, road_gain
from cleandress.walk.lags import is_lag, lag_after
from cleandress.walk.moves import moves_at
from cleandress.walk.roads import check_road

MAX_STANDINGS = 4000


def first_standings(road):
    """The tuple of the first standings, ascending by repr."""
    check_road(road)
    return in_order(starts_of(road_course(road)))


def is_standing(road, value):
    """Whether the value is a standing of a road by its form."""
    check_road(road)
    return has_form(road_course(road), value)


def steps_at(road, standing):
    """The tuple of the steps from a standing: (what the last dress reads, what the last cleaner writes, standing)."""
    check_road(road)
    course = road_course(road)
    if not has_form(course, standing):
        raise InvalidStanding("a standing of the road is needed")
    steps = []
    for move in moves_at(course, standing):
        read, written, _ = road_gain(course, standing, move)
        steps.append((read, written, move[3]))
    return tuple(steps)


def standings(road):
    """The tuple of all standings that come, ascending by repr."""
    return in_order(road_graph(road).found)


def useful_standings(road):
    """The tuple of those standings that come from which steps lead to an end, ascending by repr."""
    graph = road_graph(road)
    return in_order([standing for standing, useful in zip(graph.found, graph.useful) if useful])


def road_graph(road):
    """The graph of a road."""
    check_road(road)
    return graph_of(RoadRules(road_course(road), road_gain), MAX_STANDINGS)


def in_order(rows):
    """The tuple of some standings or rows, ascending by repr."""
    return tuple(sorted(rows, key=lambda row: repr(row)))


def lag_behind(lag, read, written):
    """The lag behind a step, None if neither text begins the other one."""
    if not is_lag(lag):
        raise InvalidOperation("a lag is a pair of texts of which one is empty")
    check_passed(read)
    check_passed(written)
    return lag_after(lag, read, written)
