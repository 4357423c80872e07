"""Integers that are passed: True and False are none of them."""


def is_number(value, low, high):
    """Whether the value is an integer from low to high."""
    return isinstance(value, int) and not isinstance(value, bool) and low <= value <= high
