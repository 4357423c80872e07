"""Lags: what each of two texts has beyond the other one, of which one begins the other.

A lag is a pair of texts of which one is empty. None stands in its place once neither text begins the other.
"""

from cleandress.base.signs import is_text

EVEN = ("", "")


def is_lag(value):
    """Whether the value is a pair of texts of which one is empty."""
    if not isinstance(value, tuple) or len(value) != 2:
        return False
    first, second = value
    return is_text(first) and is_text(second) and (first == "" or second == "")


def lag_after(lag, more, other):
    """The lag when more is added to the first text and other to the second one."""
    if lag is None:
        return None
    first = lag[0] + more
    second = lag[1] + other
    if first.startswith(second):
        return first[len(second):], ""
    if second.startswith(first):
        return "", second[len(first):]
    return None
