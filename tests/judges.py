"""Other judges: of tables, word for word by the document's points, and of least walks, with all lags and not just two."""

import heapq

from cleandress.walk.standings import first_standings, is_standing, lag_behind, steps_at, useful_standings

EVEN = ("", "")
# Lags beyond this length are left aside, and so are searches with more places than this.
LONGEST = 30
LARGEST = 40000


def refused(standing, lasts=1):
    return [place[0] in ("refused", "none") for place in standing[-lasts:]]


def has_ended(standing):
    return all(place[0] in ("end", "none") for place in standing)


def are_rows(rows, is_form):
    if not isinstance(rows, tuple):
        return False
    for row in rows:
        if not isinstance(row, tuple) or len(row) != 2 or not is_form(row[0]):
            return False
        lag = row[1]
        if lag is not None:
            if not isinstance(lag, tuple) or len(lag) != 2:
                return False
            if not all(isinstance(text, str) and set(text) <= set("#$0123:_abcdefg") for text in lag) or "" not in lag:
                return False
    texts = [repr(row) for row in rows]
    return texts == sorted(set(texts)) and len(set(row[0] for row in rows)) == len(rows)


def right_rows(rows, is_form, firsts, steps, lasts=1):
    """Whether rows are those of a right paper; steps gives triples (one, other, standing)."""
    if not are_rows(rows, is_form):
        return False
    table = dict(rows)
    for standing in firsts:
        if standing not in table or table[standing] not in (None, EVEN):
            return False
    for standing, lag in rows:
        for one, other, reached in steps(standing):
            if reached not in table:
                return False
            wanted = table[reached]
            if wanted is not None and (lag is None or added(lag, one, other) != wanted):
                return False
        marks = refused(standing, lasts)
        if any(marks) and lag is not None:
            return False
        if has_ended(standing) and lag != EVEN and not (lasts == 2 and all(marks)):
            return False
    return True


def added(lag, one, other):
    return lag_behind(lag, one, other)


def right_still_rows(road, rows):
    return right_rows(rows, lambda value: is_standing(road, value), first_standings(road), lambda at: steps_at(road, at))


def least_wrong(starts, steps):
    """A pair: the least cost of steps from a start to a wrong end, or None, and whether no long lag was left aside.

    If one was, there may be less. The starts are pairs (standing, lag); the steps are tuples (one, other, cost, standing).
    """
    waiting = []
    for standing, lag in starts:
        heapq.heappush(waiting, (0, len(waiting), standing, lag))
    count = len(waiting)
    seen = set()
    cut = False
    while waiting:
        cost, _, standing, lag = heapq.heappop(waiting)
        if (standing, lag) in seen:
            continue
        seen.add((standing, lag))
        if len(seen) > LARGEST:
            return None, False
        if has_ended(standing) and lag != EVEN:
            return cost, not cut
        for one, other, more, reached in steps(standing):
            following = None if lag is None else lag_behind(lag, one, other)
            if following is not None and len("".join(following)) > LONGEST:
                cut = True
            elif (reached, following) not in seen:
                count += 1
                heapq.heappush(waiting, (cost + more, count, reached, following))
    return None, not cut


def is_least(cost, told):
    """Whether the cost of a paper, or None, agrees with what least_wrong tells."""
    least, whole = told
    return cost == least if whole or cost is None else least is None or cost <= least


def told_useful_of(targets):
    """Those of some standings from which steps lead to an end, by going on until no more are found."""
    useful = set(standing for standing in targets if has_ended(standing))
    while True:
        more = [standing for standing in targets if standing not in useful and any(row in useful for row in targets[standing])]
        if not more:
            return useful
        useful.update(more)


def least_stirring_steps(road):
    """The least number of signs that the last dress reads along steps to a wrong end."""
    useful = set(useful_standings(road))
    kept = {}

    def steps(standing):
        if standing not in kept:
            kept[standing] = [(read, written, len(read), reached) for read, written, reached in steps_at(road, standing)
                              if reached in useful]
        return kept[standing]

    starts = [(standing, None if standing[-1][0] == "refused" else EVEN) for standing in first_standings(road)
              if standing in useful]
    return least_wrong(starts, steps)
