"""Edits: what is done to a dressed text by hand, and whether it comes through."""

from cleandress.base.signs import are_signs, check_passed, is_text
from cleandress.clean.cleaners import result_of
from cleandress.dress.dresses import Dress, dressing_with, pattern_at
from cleandress.dress.patterns import OWN, are_rows_of_pieces
from cleandress.errors import InvalidDress, InvalidOperation, InvalidText, TooMany
from cleandress.judge.edited import edit_with, has_edits, text_of_edit, wanted_by
from cleandress.judge.papers import are_right_rows, rows_of
from cleandress.judge.paths import edits_on, fillings_on, is_typed_step, text_on, typed_by
from cleandress.judge.search import search_in
from cleandress.judge.sets import greatest_sets
from cleandress.walk.courses import edit_course
from cleandress.walk.graphs import RoadRules, graph_of
from cleandress.walk.roads import check_short_road
from cleandress.walk.standings import MAX_STANDINGS

MAX_TYPED = 6
SORTS = ("fixed", "own", "filled", "typed", "left")


def is_edit(dress, text, typed, value):
    """Whether the value is an edit, with these typed signs, of a dressing of a text of any length."""
    if not isinstance(dress, Dress):
        raise InvalidDress("a dress is needed")
    if not is_text(text):
        raise InvalidText("a text is needed")
    check_typed(typed)
    return has_edits(dress, text, typed, value)


def edited_text(edit):
    """The text of all pieces of an edit but those that are left out."""
    check_edit(edit)
    return text_of_edit(edit)


def wanted_text(text, edit):
    """The text that is wanted back for an edit of a dressing of a text."""
    check_passed(text)
    check_edit(edit)
    if len(edit) != len(text) + 2:
        raise InvalidOperation("an edit has two rows more than the text that was dressed has signs")
    return wanted_by(text, edit)


def check_typed(value):
    """Raises an error if the value is no ascending tuple of signs."""
    if not are_signs(value):
        raise InvalidText("typed signs are an ascending tuple of signs")


def check_edit(value):
    """Raises an error if the value is no tuple of rows of pieces as edits have them."""
    if not are_rows_of_pieces(value, SORTS):
        raise InvalidOperation("an edit is a tuple of rows of pieces")


def edits_pass(road, typed):
    """Whether edits with these typed signs pass on a road."""
    return search_in(edit_graph(road, typed)).path is None


def edits_paper(road, typed):
    """A paper that shows that edits pass, or an edit that fails.

    It has as few signs as possible in the text that is dressed and in all typed texts together.
    """
    graph = edit_graph(road, typed)
    search = search_in(graph)
    if search.path is None:
        return "pass", rows_of(graph, search)
    text = text_on(search.path)
    handed = result_of(road[0], text)
    dressing = dressing_with(road[1], handed, fillings_on(search.path, road[1], 2))
    return "fail", text, edit_with(road[1], handed, dressing, edits_on(search.path, 2))


def is_edits_paper(road, typed, value):
    """Whether the value is a right paper of a road, of one kind or the other."""
    check_short_road(road)
    check_typed(typed)
    if not isinstance(value, tuple):
        return False
    if len(value) == 2 and value[0] == "pass":
        return are_right_rows(RoadRules(edit_course(road, typed), edit_gain), value[1])
    return len(value) == 3 and value[0] == "fail" and fails(road, typed, value[1], value[2])


def fails(road, typed, text, edit):
    """Whether an edit of a dressing of what the first cleaner writes for a text of any length does not come through."""
    if not is_text(text):
        return False
    handed = result_of(road[0], text)
    if handed is None or not has_edits(road[1], handed, typed, edit):
        return False
    return result_of(road[2], text_of_edit(edit)) != wanted_by(handed, edit)


def edit_graph(road, typed):
    """The graph of the edit standings of a road."""
    check_short_road(road)
    check_typed(typed)
    return graph_of(RoadRules(edit_course(road, typed), edit_gain), MAX_STANDINGS)


def edit_gain(course, standing, move):
    """What is wanted and what the last cleaner writes; what the dress reads and what is typed counts."""
    part, taken, written, reached = move
    if part == 1:
        # A plain sign is wanted only when the cleaner reads it, as it can still be left out.
        plain = taken != "" and pattern_at(course.parts[1], standing[1][0], taken)[0] == OWN
        return "" if plain else taken, "", len(taken)
    if not standing[2][2] or standing[2][2][0][0] not in ("ahead", "behind"):
        return "", written if part == 2 else "", 0
    return taken, written, 1 if is_typed_step((standing, part, taken, reached), 2) else 0


def greatest_typed(road, signs):
    """The ascending tuple of all greatest sets among some signs with which edits pass."""
    check_short_road(road)
    check_typed(signs)
    if len(signs) > MAX_TYPED:
        raise TooMany(MAX_TYPED)
    # With fewer typed signs there are no other standings and no other steps, so this graph has those of all sets.
    graph = edit_graph(road, signs)
    return tuple(sorted(greatest_sets(graph, lambda step: typed_by(step, 2), signs, lambda kept: True)))
