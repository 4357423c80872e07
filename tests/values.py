"""Values that several tests pass: of each kind that the document lists for wrong arguments."""

from cleandress.base.signs import SIGNS
from cleandress.clean.cleaners import plain_cleaner
from cleandress.dress.dresses import plain_dress
from cleandress.dress.holes import Hole
from cleandress.errors import InvalidText, TooMany

ALL_SIGNS = tuple(SIGNS)


def nested(make, depth):
    value = make("a")
    for _ in range(depth - 1):
        value = make(value)
    return value


def deep_values():
    return [
        nested(lambda value: (value,), 12),
        nested(lambda value: [value], 12),
        nested(lambda value: {"a": value}, 12),
    ]


def integers():
    return [-(10**79), -(10**39), -1, 0, 1, 3, 4, 12, 13, 40, 41, 200, 201, 10**39, 10**40, 10**79]


def no_integers():
    """Values of every kind but integers."""
    strings = ["", "a", "#", "z", " ", "\n", "ab", "a\n", "1", "%", "x" * 4000, "a" * 4000]
    tuples = [(), ("a",), ("a", "b"), ("b", "a"), ("a", "a"), (0,), (None,), (("a",), 0, None)]
    lists = [[], ["a"], [0], [("a",), 0, None]]
    dicts = [{}, {"a": 0}, {0: "a"}, {("a",): None}]
    objects = [Hole((("a",), 0, None)), InvalidText("a"), TooMany(4000), plain_dress(), plain_cleaner()]
    return [True, False, None] + strings + tuples + lists + dicts + objects + deep_values()


def every_value():
    return integers() + no_integers()


def no_numbers(high):
    """Everything that is not an integer from 0 to high."""
    return [value for value in integers() if not 0 <= value <= high] + no_integers()


def no_sign_tuples():
    """Everything that is not an ascending tuple of signs."""
    wrong = [value for value in every_value() if value not in ((), ("a",), ("a", "b"))]
    beyond = [("a", "b", "a"), ("a", "h"), ("A",), ("a", ""), ("ab",), ("a", 0), ("a", None), ("a", True)]
    return wrong + beyond + [(["a"],), ("a", ("b",)), ("$", "#"), ("a", "_"), tuple(reversed(ALL_SIGNS))]


def no_holes():
    return [value for value in every_value() if not isinstance(value, Hole)]


def no_texts():
    """Everything that is no text that can be passed alone."""
    return [value for value in every_value() if value not in ("", "a", "#", "ab", "1")] + ["a" * 2001]


def no_names():
    return [value for value in every_value() if value not in ("a", "z", "ab")] + ["A", "a1", "abcdefghi", "a\n"]


def short(value):
    return repr(value)[:80]
