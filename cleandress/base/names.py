"""Names that are passed, such as those of holes."""

LETTERS = "abcdefghijklmnopqrstuvwxyz"
MAX_NAME = 8


def is_name(value):
    """Whether the value is a string of one to eight letters."""
    # A string that has another character keeps it when letters are stripped off its ends.
    return isinstance(value, str) and 1 <= len(value) <= MAX_NAME and value.strip(LETTERS) == ""
