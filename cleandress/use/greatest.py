"""Greatest sets of signs and least sets of bars with which texts come back, and dressings with which one does not."""

from cleandress.base.signs import are_signs, check_passed, is_sign
from cleandress.clean.cleaners import plain_cleaner, result_of
from cleandress.errors import InvalidOperation, InvalidText, TooMany
from cleandress.judge.paths import item_read
from cleandress.judge.search import search_in
from cleandress.judge.sets import greatest_sets
from cleandress.judge.still import dressings_on
from cleandress.use.told import TextRules, path_along
from cleandress.walk.courses import narrow_course
from cleandress.walk.graphs import RoadRules, graph_of, road_gain
from cleandress.walk.roads import check_road
from cleandress.walk.standings import MAX_STANDINGS, road_graph

MAX_MEMBERS = 6


def greatest_signs(road, signs):
    """The ascending tuple of all greatest sets among some signs of which texts come back in each walk."""
    check_road(road)
    if not are_signs(signs):
        raise InvalidText("signs must be an ascending tuple of signs")
    check_number(signs)
    graph = graph_of(RoadRules(narrow_course(road, signs), road_gain), MAX_STANDINGS)
    return tuple(sorted(greatest_sets(graph, told_sign, signs, lambda kept: True)))


def told_sign(step):
    """The sign that the first cleaner reads in a step of a path, or None."""
    _, part, taken, _ = step
    return taken if part == 0 and taken != "" else None


def check_number(members):
    """Raises an error if there are more members than sets of them are tried."""
    if len(members) > MAX_MEMBERS:
        raise TooMany(MAX_MEMBERS)


def least_bars(road, pairs):
    """The ascending tuple of all least sets among some bars, pairs (hole, sign), with which a road is still."""
    check_road(road)
    if not are_bars(road, pairs):
        raise InvalidOperation("pairs must be an ascending tuple of pairs of the name of a hole and a sign")
    check_number(pairs)
    graph = road_graph(road)
    # What is not barred is kept: the least sets of bars leave the greatest sets of what is kept.
    found = greatest_sets(graph, lambda step: filled_pair(step, pairs), pairs,
                          lambda kept: are_possible(road, without(pairs, kept)))
    return tuple(sorted([without(pairs, kept) for kept in found]))


def are_bars(road, value):
    """Whether the value is an ascending tuple of bars of a road."""
    names = [name for dress in road[1::2] for name in dress.holes]
    if not isinstance(value, tuple) or not all([is_bar(names, pair) for pair in value]):
        return False
    return all([pair < following for pair, following in zip(value, value[1:])])


def is_bar(names, value):
    """Whether the value is a pair of one of these names of holes and a sign."""
    return isinstance(value, tuple) and len(value) == 2 and value[0] in names and is_sign(value[1])


def filled_pair(step, pairs):
    """The pair of the hole and the sign that a cleaner reads of a filling in a step of a path, None for other pairs."""
    _, part, taken, _ = step
    item = None if part == 0 or part % 2 == 1 else item_read(step, part)
    if item is None or item[0] != "hole" or (item[1], taken) not in pairs:
        return None
    return item[1], taken


def without(pairs, kept):
    """The tuple of the pairs that are not kept."""
    return tuple([pair for pair in pairs if pair not in kept])


def are_possible(road, bars):
    """Whether each hole of the dresses of a road still has a filling with these bars."""
    for dress in road[1::2]:
        for name, hole in dress.holes.items():
            for signs, low, _ in hole:
                if low > 0 and all([(name, sign) in bars for sign in signs]):
                    return False
    return True


def stirred_with(road, text):
    """Dressings along which a text does not come back, None if it comes back in each walk."""
    check_road(road)
    check_passed(text)
    handed = result_of(road[0], text)
    if handed is None:
        return None
    rules = TextRules((plain_cleaner(), *road[1:]), handed)
    path = search_in(graph_of(rules, None)).path
    return None if path is None else dressings_on(road, path_along(rules, path), text)
