"""Papers that are tables: a row for each standing, with one lag or None.

What standings there are is told by rules (see graphs).
"""

from cleandress.walk.lags import EVEN, is_lag, lag_after
from cleandress.walk.standings import in_order


def rows_of(graph, search):
    """The rows of all standings that come, ascending by repr; only those that are useful have lags."""
    rows = []
    for standing, lags in zip(graph.found, search.lags):
        rows.append((standing, lags[0] if lags else None))
    return in_order(rows)


def are_right_rows(rules, value):
    """Whether the value is a table of rows that shows that no walk ends wrong."""
    if not are_rows(rules, value):
        return False
    table = {standing: lag for standing, lag in value}
    if len(table) != len(value) or not has_right_starts(rules, table):
        return False
    return all([is_right_row(rules, table, standing) for standing in table])


def are_rows(rules, value):
    """Whether the value is a tuple of pairs of a standing and a lag or None, ascending by repr."""
    if not isinstance(value, tuple) or not all([isinstance(row, tuple) and len(row) == 2 for row in value]):
        return False
    if not all([rules.knows(standing) and (lag is None or is_lag(lag)) for standing, lag in value]):
        return False
    names = [repr(row) for row in value]
    return all([name < following for name, following in zip(names, names[1:])])


def has_right_starts(rules, table):
    """Whether all first standings have rows, with no lag or an even one."""
    # Large looks have more first standings than could be made; then the table has not all of them.
    if rules.how_many_first() > len(table):
        return False
    return all([standing in table and table[standing] in (None, EVEN) for standing in rules.first_ones()])


def is_right_row(rules, table, standing):
    """Whether the row of a standing fits those of all standings to which steps lead from it."""
    lag = table[standing]
    if not rules.lets_have(standing, lag):
        return False
    for step in rules.steps_from(standing):
        reached, more, other = step[:3]
        if reached not in table:
            return False
        if table[reached] is not None and lag_after(lag, more, other) != table[reached]:
            return False
    return True
