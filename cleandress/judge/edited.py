"""Edited dressings: rows in which texts are typed, and signs are left out."""

from cleandress.base.signs import is_text
from cleandress.dress.dresses import rows_along
from cleandress.dress.patterns import OWN, is_row


def has_edits(dress, text, typed, value):
    """Whether the value is an edit, with these typed signs, of a dressing of a text of any length."""
    if not isinstance(value, tuple) or len(value) != len(text) + 2:
        return False
    rows = rows_along(dress, text)
    holes = dress.holes
    return all([is_edited_row(holes, typed, pattern, sign, row) for (pattern, sign), row in zip(rows, value)])


def is_edited_row(holes, typed, pattern, sign, value):
    """Whether the value is a row of an edit, for a pattern and a sign."""
    if pattern != OWN:
        return is_row(holes, pattern, sign, value)
    if not isinstance(value, tuple):
        return False
    kept = [at for at, piece in enumerate(value) if piece in (("own", sign), ("left", sign))]
    if len(kept) != 1 or kept[0] > 1 or len(value) - kept[0] > 2:
        return False
    return all([at == kept[0] or is_typed_piece(typed, piece) for at, piece in enumerate(value)])


def is_typed_piece(typed, value):
    """Whether the value is a pair of "typed" and a text of at least one typed sign."""
    if not isinstance(value, tuple) or len(value) != 2 or value[0] != "typed":
        return False
    return is_text(value[1]) and value[1] != "" and all([sign in typed for sign in value[1]])


def text_of_edit(edit):
    """The text of all pieces of an edit but those that are left out."""
    return "".join([text for row in edit for sort, text in row if sort != "left"])


def wanted_by(text, edit):
    """The text that is wanted back for an edit of a dressing of a text of any length."""
    return "".join([wanted_of_row(sign, row) for sign, row in zip(text, edit[1:-1])])


def wanted_of_row(sign, row):
    """What is wanted for a sign: what is typed ahead of it, the sign, unless it is left out, what is typed behind."""
    kept = [at for at, (sort, _) in enumerate(row) if sort in ("own", "left")] + [len(row)]
    ahead = [text for sort, text in row[:kept[0]] if sort == "typed"]
    behind = [text for sort, text in row[kept[0]:] if sort == "typed"]
    left = any([sort == "left" for sort, _ in row])
    return "".join(ahead) + ("" if left else sign) + "".join(behind)


def edit_with(dress, text, dressing, edits):
    """The edit of a dressing with a triple (typed ahead, sort, typed behind) for each plain sign."""
    rows = []
    at = 0
    for (pattern, sign), row in zip(rows_along(dress, text), dressing):
        if pattern == OWN:
            ahead, sort, behind = edits[at]
            rows.append((*typed_piece(ahead), (sort, sign), *typed_piece(behind)))
            at = at + 1
        else:
            rows.append(row)
    return tuple(rows)


def typed_piece(text):
    """The tuple of the piece of a typed text, without one for the empty text."""
    return (("typed", text),) if text else ()
