"""Roads: a cleaner, a dress, a cleaner, and perhaps once more a dress and a cleaner."""

from cleandress.base.signs import check_passed
from cleandress.clean.cleaners import Cleaner, result_of
from cleandress.dress.dresses import Dress, dressed_text
from cleandress.errors import InvalidOperation, InvalidRoad


def along(road, text, dressings):
    """The tuple of what comes along a road, up to the first None, of a cleaner that refuses."""
    check_road(road)
    check_passed(text)
    told = told_along(road, text, dressings)
    if told is None:
        raise InvalidOperation("dressings must be a tuple of one dressing for each dress that is reached")
    return told


def comes_back(road, text, dressings):
    """Whether the last cleaner writes what was handed to the last dress, None if nothing is handed to it."""
    told = along(road, text, dressings)
    if not is_handed(road, told):
        return None
    return told[-1] == told[-3]


def check_road(value):
    """Raises an error if the value is no road."""
    if not is_road(value, 3) and not is_road(value, 5):
        raise InvalidRoad("a road is a tuple of a cleaner, a dress, a cleaner, perhaps a dress and a cleaner")


def check_short_road(value):
    """Raises an error if the value is no road of three parts."""
    if not is_road(value, 3):
        raise InvalidRoad("a road of three parts is needed")


def is_road(value, many):
    """Whether the value is a road of so many parts."""
    if not isinstance(value, tuple) or len(value) != many:
        return False
    cleaners = all([isinstance(part, Cleaner) for part in value[::2]])
    return cleaners and all([isinstance(part, Dress) for part in value[1::2]])


def told_along(road, text, dressings):
    """What comes along a road for a text of any length, None if these are not the dressings of those reached."""
    if not isinstance(dressings, tuple):
        return None
    told = [text, result_of(road[0], text)]
    reached = 0
    for dress, cleaner in zip(road[1::2], road[2::2]):
        if told[-1] is None:
            break
        if reached == len(dressings) or not dress.is_dressing(told[-1], dressings[reached]):
            return None
        dressed = dressed_text(dressings[reached])
        told.extend([dressed, result_of(cleaner, dressed)])
        reached = reached + 1
    return tuple(told) if reached == len(dressings) else None


def is_handed(road, told):
    """Whether what comes along a road comes to the last dress."""
    return len(told) == len(road) + 1
