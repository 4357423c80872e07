"""Signs and texts."""

from cleandress.base.integers import is_number
from cleandress.errors import InvalidNumber, InvalidText

SIGNS = "#$0123:_abcdefg"
MAX_PASSED = 2000
MAX_LENGTH = 12


def is_sign(value):
    """Whether the value is a sign."""
    return isinstance(value, str) and len(value) == 1 and value in SIGNS


def is_text(value):
    """Whether the value is a text, of any length."""
    # A string that has another character keeps it when signs are stripped off its ends.
    return isinstance(value, str) and value.strip(SIGNS) == ""


def check_passed(value):
    """Raises an error if the value is no text that can be passed alone."""
    if not is_text(value) or len(value) > MAX_PASSED:
        raise InvalidText("a text of at most 2000 signs is needed")


def are_signs(value):
    """Whether the value is an ascending tuple of signs, perhaps the empty one."""
    if not isinstance(value, tuple) or not all([is_sign(sign) for sign in value]):
        return False
    return all([sign < following for sign, following in zip(value, value[1:])])


def texts_upto(signs, many):
    """All texts of at most many of these signs, by length, then in Python's order."""
    if not are_signs(signs) or not signs:
        raise InvalidText("signs must be an ascending tuple of at least one sign")
    if not is_number(many, 0, MAX_LENGTH):
        raise InvalidNumber(many)
    for length in range(many + 1):
        text = signs[0] * length
        while text is not None:
            yield text
            text = text_behind(signs, text)


def text_behind(signs, text):
    """The next text of these signs with the same length, or None behind the last one."""
    kept = text.rstrip(signs[-1])
    if not kept:
        return None
    raised = signs[signs.index(kept[-1]) + 1]
    return kept[:-1] + raised + signs[0] * (len(text) - len(kept))
