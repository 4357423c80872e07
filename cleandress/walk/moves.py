"""Moves: how standings of a course go on.

A move is a tuple (part, taken, written, standing): the number of the part that is due, the sign that it reads or "",
the text that it writes if it is a cleaner, and the standing that comes.
"""

from cleandress.clean.cleaners import last_at, origins_at, written_at
from cleandress.dress.dresses import closing_at, pattern_at
from cleandress.dress.items import takes_of_item
from cleandress.dress.patterns import OWN, items_of
from cleandress.walk.courses import dress_ahead, due_part, is_dress, receivers_of


def moves_at(course, standing):
    """The list of the moves from a standing, in order."""
    part = due_part(standing)
    if part is None:
        return []
    if is_dress(course, part):
        return [dress_move(course, standing, part)]
    moves = []
    for taken, rest in takes_at(course, standing, part):
        moves.extend(moves_by(course, standing, part, taken, rest))
    if can_end(standing, part):
        moves.append(end_move(course, standing, part))
    return moves


def with_places(standing, changed):
    """A standing with other places for some parts."""
    return tuple([changed.get(part, place) for part, place in enumerate(standing)])


def dress_move(course, standing, part):
    """The move of a dress: it reads a sign, or ends."""
    state, queue = standing[part]
    dress = course.parts[part]
    taken = queue[:1]
    if taken:
        pattern, reached = pattern_at(dress, state, taken)
        changed = {part: (reached, queue[1:])}
    else:
        pattern = closing_at(dress, state)
        changed = {part: ("end", "")}
    items = items_of(pattern, taken)
    if course.typed is not None and pattern == OWN:
        items = (("ahead", taken),)
    for receiver in receivers_of(course, part):
        w, guess, waiting = standing[receiver]
        changed[receiver] = (w, guess, waiting + items)
    return part, taken, "", with_places(standing, changed)


def takes_at(course, standing, part):
    """What a cleaner can take: pairs of a sign, or "", and of what its place has behind the guess then."""
    if part == 0:
        return [(sign, ()) for sign in course.signs]
    queue = standing[part][2]
    if not queue:
        return []
    takes = takes_of(course, dress_ahead(course, part), queue[0])
    return [(sign, (left + queue[1:],)) for sign, left in takes]


def takes_of(course, dress, item):
    """What can be taken from an item: pairs of a sign, or "", and of the items that are left of it then."""
    sort = item[0]
    if sort not in ("ahead", "behind"):
        return takes_of_item(dress, item)
    typed = [(sign, (item,)) for sign in course.typed]
    if sort == "behind":
        return typed + [("", ())]
    return typed + [(item[1], (("behind",),)), ("", (("behind",),))]


def moves_by(course, standing, part, taken, rest):
    """The moves by which a cleaner takes a sign, one for each guess, or the one by which it takes nothing."""
    w, guess = standing[part][:2]
    if taken == "":
        return [(part, "", "", with_places(standing, {part: (w, guess, *rest)}))]
    cleaner = course.parts[part]
    moves = []
    for behind in origins_at(cleaner, taken, guess):
        written, reached = ("", w) if w == "refused" else written_at(cleaner, w, taken, behind)
        changed = changed_by(course, standing, part, (reached, behind, *rest), written)
        moves.append((part, taken, written, with_places(standing, changed)))
    return moves


def can_end(standing, part):
    """Whether a cleaner that is due can end."""
    place = standing[part]
    return place[1] == 0 and (part == 0 or place[2] == ())


def end_move(course, standing, part):
    """The move by which a cleaner ends."""
    w, guess, *rest = standing[part]
    if w == "refused":
        return part, "", "", with_places(standing, {part: ("none", guess, *rest)})
    written = last_at(course.parts[part], w)
    changed = changed_by(course, standing, part, ("end", guess, *rest), written)
    return part, "", written, with_places(standing, changed)


def changed_by(course, standing, part, place, written):
    """The places that change when a cleaner writes: its own, and that of the dress behind it, if there is one."""
    changed = {part: place}
    if part not in course.lasts:
        state, queue = standing[part + 1]
        changed[part + 1] = (state, queue + written)
    return changed
