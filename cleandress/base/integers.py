"""Integers that are passed: True and False are none of them, and they have at most forty digits."""


def is_number(value, low, high):
    """Whether the value is an integer from low to high."""
    return isinstance(value, int) and not isinstance(value, bool) and low <= value <= high


def is_natural(value):
    """Whether the value is an integer of at least 0."""
    return is_number(value, 0, 10 ** 40 - 1)
