"""Papers that are tables: a row for each standing, with one lag or None.

One set of rules serves all kinds of courses and of gains (see graphs).
"""

from cleandress.walk.courses import how_many_refuse, how_many_starts, is_end, starts_of
from cleandress.walk.forms import has_form
from cleandress.walk.lags import EVEN, is_lag, lag_after
from cleandress.walk.moves import moves_at


def rows_of(graph, search):
    """The rows of all standings that come, ascending by repr; only those that are useful have lags."""
    rows = []
    for standing, lags in zip(graph.found, search.lags):
        rows.append((standing, lags[0] if lags else None))
    return tuple(sorted(rows, key=lambda row: repr(row)))


def are_right_rows(course, gain, value):
    """Whether the value is a table of rows that shows that no walk ends wrong."""
    if not are_rows(course, value):
        return False
    table = {standing: lag for standing, lag in value}
    if len(table) != len(value) or not has_right_starts(course, table):
        return False
    return all([is_right_row(course, gain, table, standing) for standing in table])


def are_rows(course, value):
    """Whether the value is a tuple of pairs of a standing and a lag or None, ascending by repr."""
    if not isinstance(value, tuple) or not all([isinstance(row, tuple) and len(row) == 2 for row in value]):
        return False
    if not all([has_form(course, standing) and (lag is None or is_lag(lag)) for standing, lag in value]):
        return False
    names = [repr(row) for row in value]
    return all([name < following for name, following in zip(names, names[1:])])


def has_right_starts(course, table):
    """Whether all first standings have rows, with no lag or an even one."""
    # Large looks have more first standings than could be made; then the table has not all of them.
    if how_many_starts(course) > len(table):
        return False
    return all([standing in table and table[standing] in (None, EVEN) for standing in starts_of(course)])


def is_right_row(course, gain, table, standing):
    """Whether the row of a standing fits those of all standings to which steps lead from it."""
    lag = table[standing]
    refusing = how_many_refuse(course, standing)
    if refusing > 0 and lag is not None:
        return False
    if is_end(standing):
        return lag == EVEN or refusing == 2
    for move in moves_at(course, standing):
        reached = move[3]
        if reached not in table:
            return False
        if table[reached] is not None:
            more, other, _ = gain(course, standing, move)
            if lag_after(lag, more, other) != table[reached]:
                return False
    return True
