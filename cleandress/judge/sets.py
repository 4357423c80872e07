"""Greatest sets of what steps of a graph may have, such as typed signs, so that no walk ends wrong.

What a step has is told by a mark: a function of a tuple (standing, part, taken, standing behind) that gives a member of
the sets, or None for a step that is always there.
"""

from cleandress.judge.search import search_in
from cleandress.walk.graphs import Graph


def greatest_sets(graph, mark, members, is_possible):
    """The list of the greatest sets with which no walk ends wrong, tuples in the order of the members.

    Only possible sets are tried. Whatever contains a possible set must be possible, too.
    """
    marks = []
    for standing, row in zip(graph.found, graph.steps):
        marks.append([mark((standing, step[4], step[5], graph.found[step[0]])) for step in row])
    passing = []
    failing = []
    for kept in sets_of(members):
        if any([is_part_of(kept, found) for found in passing]) or any([is_part_of(found, kept) for found in failing]):
            continue
        if is_possible(kept):
            path = search_in(graph_with(graph, marks, kept)).path
            if path is None:
                passing.append(kept)
            else:
                failing.append([mark(step) for step in path if mark(step) is not None])
    return passing


def sets_of(members):
    """All sets of some members, tuples in their order, greater ones first."""
    sets = [()]
    for member in members:
        sets = sets + [(*found, member) for found in sets]
    return sorted(sets, key=lambda found: -len(found))


def is_part_of(members, others):
    """Whether all members of a set are in another one."""
    return all([member in others for member in members])


def graph_with(graph, marks, kept):
    """The graph without the steps that have other members than those of a set."""
    steps = []
    for row, had in zip(graph.steps, marks):
        steps.append([step for step, member in zip(row, had) if member is None or member in kept])
    return Graph(graph.found, graph.starts, steps, graph.ends)
