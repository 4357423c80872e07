"""Back sets: from which places a walk of a readable dress can write just a text and end.

A set of places is an integer with a bit for each place, by its number. The first place has the number 0.
"""

from cleandress.dress.places import first_place, is_reading, readings_at, writings_at


class Backs:
    """What walks of a readable dress write next, place by place.

    For each place, gives has a dict from each sign that can be written next to a dict from the numbers of the places
    behind it to what is read until then; endings has what is read until the end, None where more is to be written.
    """

    def __init__(self, gives, endings):
        self.gives = gives
        self.endings = endings
        self.sources = sources_of(gives)


def backs_of(dress):
    """The Backs of a readable dress."""
    found, silent, written = steps_of(dress)
    gives = []
    endings = []
    for number in range(len(found)):
        told, ending = next_from(number, silent, written, found.index(("end", ())))
        gives.append(told)
        endings.append(ending)
    return Backs(gives, endings)


def steps_of(dress):
    """The list of the places that come, and for each of them the steps that write nothing, and those that do.

    Both are lists of pairs (sign, number): of what is read, or of what is written.
    """
    found = [first_place(dress)]
    numbers = {found[0]: 0}
    silent = []
    written = []
    while len(silent) < len(found):
        place = found[len(silent)]
        reading = is_reading(place)
        rows = ([], [])
        for sign, reached in readings_at(dress, place) if reading else writings_at(dress, place):
            if reached not in numbers:
                numbers[reached] = len(found)
                found.append(reached)
            rows[0 if reading or sign == "" else 1].append((sign, numbers[reached]))
        silent.append(rows[0])
        written.append(rows[1])
    return found, silent, written


def next_from(number, silent, written, end):
    """What a walk can write next from a place, and what it reads until the end, if it writes no more (see Backs)."""
    gives = {}
    ending = None
    # As the dress is readable, no two rows of steps that write nothing lead from one place to one other.
    waiting = [(number, "")]
    while waiting:
        at, text = waiting.pop()
        if at == end:
            ending = text
        for sign, reached in written[at]:
            gives.setdefault(sign, {})[reached] = text
        for taken, reached in silent[at]:
            waiting.append((reached, text + taken))
    return gives, ending


def sources_of(gives):
    """For each sign a dict from sets of places behind it to the sets of places from which it leads just there."""
    sources = {}
    for number, told in enumerate(gives):
        for sign, options in told.items():
            behind = sources.setdefault(sign, {})
            targets = set_of(options)
            behind[targets] = behind.get(targets, 0) | (1 << number)
    return sources


def set_of(numbers):
    """The set of some places, which are different."""
    return sum([1 << number for number in numbers])


def empty_back(backs):
    """The back set of the empty text."""
    return set_of([number for number, ending in enumerate(backs.endings) if ending is not None])


def back_ahead(backs, sign, behind):
    """The back set of a sign and a text, by the back set of the text."""
    found = 0
    for targets, places in backs.sources.get(sign, {}).items():
        if targets & behind:
            found = found | places
    return found


def is_in(number, places):
    """Whether a place is in a set of places."""
    return (places >> number) & 1 == 1


def option_within(options, places):
    """The first of some options that leads into a set of places: the number of its place, None if there is none."""
    for number in options:
        if is_in(number, places):
            return number
    return None
