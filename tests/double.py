"""Double standings and edit standings another way: by the steps of single parts of a road, as they are told in stage 5."""

from cleandress.base.signs import is_sign
from cleandress.walk.standings import first_standings, is_standing, steps_at

AWAY = (("end", 0), ("end", ""))
OWN = (("own",),)


def double_starts(road):
    firsts = first_standings(road)
    return [(*one, other[2]) for one in firsts for other in firsts if one[:2] == other[:2]]


def is_double(road, value):
    if not isinstance(value, tuple) or len(value) != 4:
        return False
    return is_standing(road, value[:3]) and is_standing(road, (*value[:2], value[3]))


def double_steps(road, standing):
    """Tuples (what the first of both writes, what the second one writes, what the dress reads, standing)."""
    first, dress, one, other = standing
    if other[2]:
        return [("", written, 0, (first, dress, one, reached[2])) for _, written, reached in steps_at(road, (*AWAY, other))]
    if one[2]:
        return [(written, "", 0, (first, dress, reached[2], other)) for _, written, reached in steps_at(road, (*AWAY, one))]
    if dress[0] != "end" or first[0] != "end":
        rows = []
        for read, _, reached in steps_at(road, (first, dress, (0, 0, ()))):
            queue = reached[2][2]
            rows.append(("", "", len(read), (*reached[:2], (*one[:2], queue), (*other[:2], queue))))
        return rows
    if one[0] not in ("end", "none"):
        return [(written, "", 0, (first, dress, reached[2], other)) for _, written, reached in steps_at(road, (*AWAY, one))]
    return [("", written, 0, (first, dress, one, reached[2])) for _, written, reached in steps_at(road, (*AWAY, other))]


def is_edit_standing(road, value):
    """Whether the value is a standing but for items of edits in its last queue."""
    if not isinstance(value, tuple) or len(value) != 3 or not isinstance(value[2], tuple) or len(value[2]) != 3:
        return False
    queue = value[2][2]
    if not isinstance(queue, tuple):
        return False
    plain = tuple(("own", "a") if is_edit_item(item) else item for item in queue)
    return is_standing(road, (*value[:2], (*value[2][:2], plain)))


def is_edit_item(item):
    if item == ("behind",):
        return True
    return isinstance(item, tuple) and len(item) == 2 and item[0] == "ahead" and is_sign(item[1])


def edit_steps(road, typed, standing):
    """Tuples (wanted, written, cost, standing)."""
    first, dress, (w, g, queue) = standing
    if not queue:
        return [edited_dress_step(road, standing, *step) for step in steps_at(road, standing)]
    item, rest = queue[0], queue[1:]
    if not is_edit_item(item):
        steps = steps_at(road, (*AWAY, (w, g, (item,))))
        return [("", written, 0, (first, dress, (*reached[2][:2], reached[2][2] + rest))) for _, written, reached in steps]
    rows = [step for sign in typed for step in reading(road, standing, sign, queue, sign, 1)]
    if item == ("behind",):
        return rows + [("", "", 0, (first, dress, (w, g, rest)))]
    behind = (("behind",), *rest)
    return rows + reading(road, standing, item[1], behind, item[1], 0) + [("", "", 0, (first, dress, (w, g, behind)))]


def reading(road, standing, sign, queue, wanted, cost):
    """The steps in which the last cleaner reads a sign and has a queue then."""
    first, dress, (w, g, _) = standing
    steps = steps_at(road, (*AWAY, (w, g, (("own", sign),))))
    return [(wanted, written, cost, (first, dress, (*reached[2][:2], queue))) for _, written, reached in steps]


def edited_dress_step(road, standing, read, written, reached):
    """The step of another part, with the item of a plain sign in the place of its own."""
    if not read:
        return "", written, 0, reached
    moves, other, _ = road[1].states[standing[1][0]]
    if moves.get(read, (OWN, other))[0] != OWN:
        return read, written, 1, reached
    return "", written, 1, (*reached[:2], (*reached[2][:2], (("ahead", read),)))
