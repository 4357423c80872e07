"""Pair standings and back sets another way: by the words of 9.1 to 9.3, place by place."""

import heapq
import itertools

from cleandress.base.signs import SIGNS
from cleandress.dress.dresses import dressed_text
from cleandress.walk.standings import lag_behind
from tests.oracle import all_texts

EVEN = ("", "")
END = ("end", ())
LONGEST = 30


def told_items(pattern, sign):
    return tuple(("own", sign) if part == ("own",) else ("hole", part[1], 0, 0) if part[0] == "hole" else part for part in pattern)


def told_first(dress):
    return (0, told_items(dress.opening, ""))


def read_places(dress, place):
    """Pairs (sign or "", place) of a walk that is due, None if it is not."""
    state, queue = place
    if queue or state == "end":
        return None
    moves, other, closing = dress.states[state]
    rows = [(sign, (moves[sign][1], told_items(moves[sign][0], sign)) if sign in moves else (other, (("own", sign),)))
            for sign in SIGNS]
    return rows + [("", ("end", told_items(closing, "")))]


def gone_on(dress, place):
    """The list of the place to which a hole at the front goes on, if it can."""
    state, queue = place
    if not queue or queue[0][0] != "hole":
        return []
    _, name, run, count = queue[0]
    runs = dress.holes[name].runs
    if count < runs[run][1]:
        return []
    return [(state, ((("hole", name, run + 1, 0),) if run + 1 < len(runs) else ()) + queue[1:])]


def after_writing(dress, place, sign):
    """The list of the place behind a sign that the front can give."""
    state, queue = place
    if not queue:
        return []
    front, rest = queue[0], queue[1:]
    if front[0] == "hole":
        _, name, run, count = front
        signs, low, high = dress.holes[name].runs[run]
        if sign not in signs or count == high:
            return []
        count = count + 1 if high is not None else min(low, count + 1)
        return [(state, (("hole", name, run, count),) + rest)]
    if front[1][0] != sign:
        return []
    left = front[1][1:]
    return [(state, ((front[0], left),) + rest if left else rest)]


def pair_steps(dress, standing):
    """Triples (what the first walk reads, what the second one reads, standing), in order."""
    one, other = standing[:2], standing[2:]
    if read_places(dress, one) is not None:
        rows = [(sign, "", place + other) for sign, place in read_places(dress, one)]
    elif read_places(dress, other) is not None:
        rows = [("", sign, one + place) for sign, place in read_places(dress, other)]
    else:
        rows = [("", "", place + other) for place in gone_on(dress, one)]
        rows += [("", "", one + place) for place in gone_on(dress, other)]
        for sign in SIGNS:
            rows += [("", "", first + second) for first in after_writing(dress, one, sign)
                     for second in after_writing(dress, other, sign)]
    return [row for row in rows if not differs(row[2])]


def differs(standing):
    fronts = [queue[0] for queue in standing[1::2] if queue]
    if len(fronts) < 2 or "hole" in (fronts[0][0], fronts[1][0]):
        return False
    return fronts[0][1][0] != fronts[1][1][0]


def all_pairs(dress):
    """All pair standings that come, each with its steps."""
    start = told_first(dress) * 2
    found = {}
    waiting = [start]
    while waiting:
        at = waiting.pop()
        if at not in found:
            found[at] = pair_steps(dress, at)
            waiting += [row[2] for row in found[at]]
    return found


def is_item(dress, value):
    if not isinstance(value, tuple) or len(value) not in (2, 4) or not isinstance(value[0], str):
        return False
    if len(value) == 2:
        if not isinstance(value[1], str) or not value[1] or not set(value[1]) <= set(SIGNS):
            return False
        return value[0] == "fixed" or (value[0] == "own" and len(value[1]) == 1)
    sort, name, run, count = value
    if sort != "hole" or not isinstance(name, str) or name not in dress.holes or type(run) is not int or type(count) is not int:
        return False
    runs = dress.holes[name].runs
    if not 0 <= run < len(runs):
        return False
    return 0 <= count <= (runs[run][1] if runs[run][2] is None else runs[run][2])


def is_pair(dress, value):
    if not isinstance(value, tuple) or len(value) != 4:
        return False
    for state, queue in (value[:2], value[2:]):
        if state != "end" and (type(state) is not int or not 0 <= state < len(dress.states)):
            return False
        if not isinstance(queue, tuple) or not all(is_item(dress, item) for item in queue):
            return False
    return True


def right_pair_rows(dress, rows):
    """Whether rows are those of a right readable paper."""
    if not isinstance(rows, tuple) or not all(isinstance(row, tuple) and len(row) == 2 and is_pair(dress, row[0]) for row in rows):
        return False
    for _, lag in rows:
        if lag is not None:
            if not isinstance(lag, tuple) or len(lag) != 2 or not all(isinstance(text, str) and set(text) <= set(SIGNS) for text in lag):
                return False
            if "" not in lag:
                return False
    names = [repr(row) for row in rows]
    table = dict(rows)
    if names != sorted(set(names)) or len(table) != len(rows):
        return False
    if table.get(told_first(dress) * 2, "none") not in (None, EVEN) or table.get(END * 2) != EVEN:
        return False
    for standing, lag in rows:
        for read, beside, reached in pair_steps(dress, standing):
            if reached not in table:
                return False
            if table[reached] is not None and (lag is None or lag_behind(lag, read, beside) != table[reached]):
                return False
    return True


def least_mixed(dress):
    """The least number of signs of two texts that are dressed alike, None if there are none, with lags up to a length."""
    start = told_first(dress) * 2
    steps = {}
    waiting = [(0, 0, start, EVEN)]
    count = 0
    seen = set()
    while waiting:
        cost, _, standing, lag = heapq.heappop(waiting)
        if (standing, lag) in seen:
            continue
        seen.add((standing, lag))
        if standing == END * 2 and lag != EVEN:
            return cost
        if standing not in steps:
            steps[standing] = pair_steps(dress, standing)
        for read, beside, reached in steps[standing]:
            following = None if lag is None else lag_behind(lag, read, beside)
            if (following is None or len("".join(following)) <= LONGEST) and (reached, following) not in seen:
                count += 1
                heapq.heappush(waiting, (cost + len(read + beside), count, reached, following))
    return None


def short_dressed(dress, signs, length, many, most):
    """A dict from dressed texts of short texts and fillings to the lists of these texts."""
    made = {}
    for text in all_texts(signs, length):
        for dressing in itertools.islice(dress.dressings(text, many=many), most):
            texts = made.setdefault(dressed_text(dressing), [])
            if text not in texts:
                texts.append(text)
    return made


def single_steps(dress, place):
    """Pairs (what is written or "", place) of the steps of one walk."""
    if read_places(dress, place) is not None:
        return [("", reached) for _, reached in read_places(dress, place)]
    rows = [("", reached) for reached in gone_on(dress, place)]
    return rows + [(sign, reached) for sign in SIGNS for reached in after_writing(dress, place, sign)]


def all_places(dress):
    """All places to which a walk comes, each with its steps."""
    found = {}
    waiting = [told_first(dress)]
    while waiting:
        at = waiting.pop()
        if at not in found:
            found[at] = single_steps(dress, at)
            waiting += [reached for _, reached in found[at]]
    return found


def spread(origins, places):
    """The places from which some places come without writing, these included."""
    found = set(places)
    waiting = list(places)
    while waiting:
        for place in origins.get(("", waiting.pop()), ()):
            if place not in found:
                found.add(place)
                waiting.append(place)
    return frozenset(found)


def origins_of(dress):
    origins = {}
    for place, steps in all_places(dress).items():
        for written, reached in steps:
            origins.setdefault((written, reached), []).append(place)
    return origins


def back_set(dress, text):
    """The back set of a text."""
    origins = origins_of(dress)
    found = spread(origins, [END])
    for sign in reversed(text):
        found = spread(origins, [place for reached in found for place in origins.get((sign, reached), ())])
    return found


def how_many_sets(dress):
    """The number of the back sets of all texts."""
    origins = origins_of(dress)
    found = {spread(origins, [END])}
    waiting = list(found)
    while waiting:
        places = waiting.pop()
        for sign in SIGNS:
            ahead = spread(origins, [place for reached in places for place in origins.get((sign, reached), ())])
            if ahead not in found:
                found.add(ahead)
                waiting.append(ahead)
    return len(found)
