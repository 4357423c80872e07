"""Courses: rows of parts through which signs go, told by standings.

There are three kinds. That of a road has its parts. That of a road whose last cleaner reads two dressings of one text
has the last cleaner twice. That of a road with edits has its parts and typed signs; its last queue can have items
("ahead", sign) and ("behind",). One set of rules serves them all.
"""

from cleandress.base.signs import SIGNS
from cleandress.dress.dresses import Dress
from cleandress.dress.patterns import items_of


class Course:
    """The parts, the numbers of those that are last cleaners, what the first cleaner can read, and the typed signs.

    Where there are no edits, None stands for the typed signs.
    """

    def __init__(self, parts, lasts, signs, typed):
        self.parts = parts
        self.lasts = lasts
        self.signs = signs
        self.typed = typed


def road_course(road):
    """The course of a road."""
    return narrow_course(road, tuple(SIGNS))


def narrow_course(road, signs):
    """The course of a road on which the first cleaner reads these signs alone."""
    return Course(road, (len(road) - 1,), signs, None)


def double_course(road):
    """The course of a road of three parts on which two dressings of one text are cleaned."""
    return Course((*road, road[2]), (2, 3), tuple(SIGNS), None)


def edit_course(road, typed):
    """The course of a road of three parts with edits."""
    return Course(road, (2,), tuple(SIGNS), typed)


def is_dress(course, part):
    """Whether a part is a dress."""
    return isinstance(course.parts[part], Dress)


def dress_ahead(course, part):
    """The dress that fills the queue of a cleaner."""
    return course.parts[course.lasts[0] - 1] if part in course.lasts else course.parts[part - 1]


def receivers_of(course, part):
    """The numbers of the cleaners whose queues a dress fills."""
    return course.lasts if part + 1 in course.lasts else (part + 1,)


def start_places(course, part):
    """The places of a part in the first standings."""
    if is_dress(course, part):
        return [(0, "")]
    queue = () if part == 0 else (items_of(dress_ahead(course, part).opening, ""),)
    places = []
    for guess, state in enumerate(course.parts[part].firsts):
        if state is not None:
            places.append((state, guess, *queue))
        elif part in course.lasts:
            places.append(("refused", guess, *queue))
    return places


def starts_of(course):
    """The list of the first standings."""
    found = [()]
    for part in range(len(course.parts)):
        places = start_places(course, part)
        found = [(*standing, place) for standing in found for place in places]
    return found


def how_many_starts(course):
    """The number of the first standings, without making them: large looks have many."""
    many = 1
    for part in range(len(course.parts)):
        many = many * len(start_places(course, part))
    return many


def has_ended(place):
    """Whether a part has ended, by its place."""
    return place[0] in ("end", "none")


def is_end(standing):
    """Whether all parts have ended."""
    return all([has_ended(place) for place in standing])


def due_part(standing):
    """The number of the part that is due, None at an end."""
    for part in reversed(range(1, len(standing))):
        if standing[part][-1]:
            return part
    for part, place in enumerate(standing):
        if not has_ended(place):
            return part
    return None


def how_many_refuse(course, standing):
    """How many of the last cleaners refuse what they read, whether they have ended or not."""
    return len([part for part in course.lasts if standing[part][0] in ("refused", "none")])
