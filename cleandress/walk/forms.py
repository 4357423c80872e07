"""Forms: which values are standings of a course by their form, whether they come or not."""

from cleandress.base.integers import is_number
from cleandress.base.signs import is_sign, is_text
from cleandress.walk.courses import dress_ahead, has_ended, is_dress


def has_form(course, value):
    """Whether the value is a standing by its form."""
    if not isinstance(value, tuple) or len(value) != len(course.parts):
        return False
    return all([is_place(course, part, place) for part, place in enumerate(value)])


def is_place(course, part, value):
    """Whether the value is a place of a part by its form."""
    if not isinstance(value, tuple):
        return False
    if is_dress(course, part):
        return is_dress_place(course.parts[part], value)
    cleaner = course.parts[part]
    if len(value) != (2 if part == 0 else 3) or not is_number(value[1], 0, len(cleaner.firsts) - 1):
        return False
    if not is_writer_place(course, part, value[0]):
        return False
    return part == 0 or is_queue(course, part, value)


def is_dress_place(dress, value):
    """Whether a tuple is a place of a dress by its form."""
    if len(value) != 2 or not is_text(value[1]):
        return False
    state, queue = value
    return is_number(state, 0, len(dress) - 1) or (state == "end" and queue == "")


def is_writer_place(course, part, value):
    """Whether the value is a state of the writer of a cleaner, or a word that can stand in its place."""
    if is_number(value, 0, len(course.parts[part]) - 1) or value == "end":
        return True
    return part in course.lasts and value in ("refused", "none")


def is_queue(course, part, place):
    """Whether a place of a cleaner has a queue by its form, an empty one if the cleaner has ended."""
    queue = place[2]
    if not isinstance(queue, tuple) or (has_ended(place) and queue):
        return False
    dress = dress_ahead(course, part)
    # Where there are edits, the road has three parts, and the last cleaner's queue is the only one.
    return all([is_item(dress, course.typed is not None, item) for item in queue])


def is_item(dress, edited, value):
    """Whether the value is an item of a queue behind a dress, perhaps one of edits."""
    if not isinstance(value, tuple):
        return False
    if len(value) == 4:
        return is_hole_item(dress, value)
    if len(value) == 2:
        sort, told = value
        if sort == "fixed":
            return is_text(told) and told != ""
        return (sort == "own" or (edited and sort == "ahead")) and is_sign(told)
    return edited and value == ("behind",)


def is_hole_item(dress, value):
    """Whether a tuple of four is an item of a hole of a dress."""
    sort, name, run, count = value
    if sort != "hole" or not isinstance(name, str) or name not in dress.holes:
        return False
    runs = dress[name].runs
    if not is_number(run, 0, len(runs) - 1):
        return False
    _, low, high = runs[run]
    return is_number(count, 0, low if high is None else high)
