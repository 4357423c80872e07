"""Cleaners that are made for dresses: they give each text back from each of its dressings, and refuse all else."""

from cleandress.base.signs import SIGNS, check_passed
from cleandress.clean.backs import back_ahead, backs_of, empty_back, is_in, option_within
from cleandress.clean.cleaners import MadeCleaner
from cleandress.errors import InvalidOperation, TooMany
from cleandress.judge.readable import check_dress, is_readable

MAX_SETS = 200


def read_back(dress, text):
    """The text that has a dressing with this dressed text, None if there is none."""
    check_dress(dress)
    check_passed(text)
    check_readable(dress)
    backs = backs_of(dress)
    behind = backs_along(backs, text)
    if not is_in(0, behind[0]):
        return None
    number = 0
    pieces = []
    for sign, places in zip(text, behind[1:]):
        options = backs.gives[number][sign]
        number = option_within(options, places)
        pieces.append(options[number])
    return "".join(pieces) + backs.endings[number]


def check_readable(dress):
    """Raises an error if a dress cannot be read."""
    if not is_readable(dress):
        raise InvalidOperation("a dress that can be read is needed")


def backs_along(backs, text):
    """The list of the back sets of all that a text ends with, that of the whole text first."""
    kept = {}
    found = [empty_back(backs)]
    for sign in text[::-1]:
        key = (sign, found[-1])
        if key not in kept:
            kept[key] = back_ahead(backs, sign, found[-1])
        found.append(kept[key])
    return found[::-1]


def cleaner_for(dress):
    """A cleaner that gives each text back from each of its dressings, and refuses all that are no dressed texts."""
    check_dress(dress)
    check_readable(dress)
    backs = backs_of(dress)
    views, look = views_of(backs)
    firsts = [0 if is_in(0, places) else None for places in views]
    return cleaner_with(writer_of(backs, views), look, firsts)


def views_of(backs):
    """The list of the back sets of all texts, and for each of them a dict from signs to the numbers of those ahead."""
    views = [empty_back(backs)]
    numbers = {views[0]: 0}
    look = []
    while len(look) < len(views):
        moves = {}
        for sign in SIGNS:
            places = back_ahead(backs, sign, views[len(look)])
            if places not in numbers:
                if len(views) == MAX_SETS:
                    raise TooMany(MAX_SETS)
                numbers[places] = len(views)
                views.append(places)
            moves[sign] = numbers[places]
        look.append(moves)
    return views, look


def writer_of(backs, views):
    """The states of the writer: it is where a walk of the dress is, and writes what this walk reads."""
    found = [0]
    numbers = {0: 0}
    writer = []
    while len(writer) < len(found):
        place = found[len(writer)]
        moves = {}
        for sign, options in backs.gives[place].items():
            for view, reached in chosen_options(options, views):
                if reached not in numbers:
                    numbers[reached] = len(found)
                    found.append(reached)
                moves[sign, view] = (options[reached], numbers[reached])
        ending = backs.endings[place]
        writer.append((moves, 0, "" if ending is None else ending))
    return writer


def chosen_options(options, views):
    """Pairs of a view behind the sign and of the option that is right there; the view is None if there is but one."""
    if len(options) == 1:
        return [(None, number) for number in options]
    told = [(view, option_within(options, places)) for view, places in enumerate(views)]
    return [(view, number) for view, number in told if number is not None]


def cleaner_with(writer, look, firsts):
    """The cleaner with these parts, in which views that make no difference are one."""
    kinds = kinds_of_views(writer, look, firsts)
    chosen = [kinds.index(kind) for kind in range(max(kinds) + 1)]
    states = []
    for moves, other, last in writer:
        told = {(sign, None if view is None else kinds[view]): move for (sign, view), move in moves.items()}
        states.append((told, other, last))
    merged = [({sign: kinds[view] for sign, view in look[at].items()}, 0) for at in chosen]
    return MadeCleaner(tuple(states), tuple(merged), tuple([firsts[at] for at in chosen]))


def kinds_of_views(writer, look, firsts):
    """For each view the number of its kind: views are of one kind if the cleaner does the same with them."""
    uses = [[first] for first in firsts]
    for number, (moves, _, _) in enumerate(writer):
        for (sign, view), move in moves.items():
            if view is not None:
                uses[view].append((number, sign, move))
    kinds = numbered([tuple(row) for row in uses])
    many = 0
    while many <= max(kinds):
        many = max(kinds) + 1
        ahead = [tuple([kinds[reached] for reached in row.values()]) for row in look]
        kinds = numbered(list(zip(kinds, ahead)))
    return kinds


def numbered(rows):
    """A number for each row, from 0 on, the same one for equal rows."""
    numbers = {}
    for row in rows:
        numbers.setdefault(row, len(numbers))
    return [numbers[row] for row in rows]
