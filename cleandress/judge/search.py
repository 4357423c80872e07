"""Search: the cheapest walk that ends wrong, if there is one.

A walk ends wrong if its two texts differ at its end, or if it is hopeless, which the lag None tells: if neither text
begins the other one, or if a cleaner refuses whose result counts. Two lags for each standing are enough. Steps that
lead from there to an end are right for one lag at most, so a third lag, which costs more, leads to nothing that one of
the two does not.
"""

from cleandress.walk.lags import EVEN, lag_after

ENOUGH = 2


class Search:
    """For each standing of a graph the lags that were found, and the path of a cheapest walk that ends wrong.

    The path is a list of tuples (standing, part, taken, standing behind), None if no walk ends wrong.
    """

    def __init__(self, lags, path):
        self.lags = lags
        self.path = path


def search_in(graph):
    """The search in a graph."""
    lags = [[] for _ in graph.found]
    # What waits, and what is settled, are tuples (standing, lag, index of what was settled ahead of it, step).
    settled = []
    level = [(number, lag, None, None) for number, lag in graph.starts if graph.useful[number]]
    while level:
        later = []
        at = 0
        while at < len(level):
            number, lag, _, _ = level[at]
            if is_needed(lags[number], lag):
                lags[number].append(lag)
                settled.append(level[at])
                if lag != EVEN and graph.ends[number]:
                    return Search(lags, path_to(graph, settled))
                for item in items_behind(graph, lags, number, lag, len(settled) - 1):
                    # What costs nothing more comes ahead of all that does.
                    waiting = later if item[3][3] else level
                    waiting.append(item)
            at = at + 1
        level = later
    return Search(lags, None)


def is_needed(kept, lag):
    """Whether a lag can lead to a cheaper walk that ends wrong than those that were kept ahead of it."""
    return len(kept) < ENOUGH and lag not in kept and None not in kept


def items_behind(graph, lags, number, lag, index):
    """What waits behind a standing with a lag, which is settled under an index."""
    items = []
    for step in graph.steps[number]:
        reached, more, other, _, _, _ = step
        if graph.useful[reached]:
            following = lag_after(lag, more, other)
            if is_needed(lags[reached], following):
                items.append((reached, following, index, step))
    return items


def path_to(graph, settled):
    """The path to what was settled last."""
    path = []
    number, _, index, step = settled[-1]
    while step is not None:
        before, _, earlier, step_before = settled[index]
        path.append((graph.found[before], step[4], step[5], graph.found[number]))
        number, index, step = before, earlier, step_before
    return path[::-1]
