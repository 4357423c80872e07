"""Deeds: calls of a house as tuples."""

from cleandress.base.names import is_name
from cleandress.base.signs import is_text
from cleandress.errors import InvalidFilling, InvalidOperation, InvalidText, Refused, UnknownName
from cleandress.house.lines import is_path

WRONG = 0
DONE = 1
STIRRED = 2
REFUSED = 3


def is_deed(value):
    """Whether the value is a deed by its form."""
    if not isinstance(value, tuple) or not 2 <= len(value) <= 3:
        return False
    word, told = value[:2]
    if len(value) == 2:
        return (word == "use" and is_name(told)) or (word == "store" and is_path(told))
    if not is_path(told):
        return False
    if word == "take":
        return isinstance(value[2], tuple) and all([is_text(text) for text in value[2]])
    return (word == "put" and is_text(value[2])) or (word == "move" and is_path(value[2]))


def outcome_of(house, deed):
    """Does a deed in a house, and tells what becomes of it: WRONG if it raises an error, DONE if it does not.

    That of storing a copy is STIRRED if it stores another text than before, and REFUSED if the copy is refused.
    """
    try:
        stirred = done(house, deed)
    except Refused:
        return REFUSED if deed[0] == "store" else WRONG
    except (InvalidText, InvalidOperation, InvalidFilling, UnknownName):
        return WRONG
    return STIRRED if stirred else DONE


def done(house, deed):
    """Does a deed in a house; returns whether another text than before is stored for a copy."""
    word, told = deed[:2]
    if word == "store":
        return house.store(told)
    if word == "use":
        house.use(told)
    elif word == "put":
        house.put(told, deed[2])
    elif word == "move":
        house.move(told, deed[2])
    else:
        house.take(told, deed[2])
    return False
