"""Words: how texts, signs, integers and patterns stand in a line, and lines of words."""

from cleandress.base.signs import is_sign, is_text
from cleandress.errors import InvalidText, ParseError

DIGITS = "0123456789"
NONE = "-"
# Python reads no numbers with many more digits.
MAX_DIGITS = 4000


def text_word(text):
    """The word of a text."""
    return "=" + text


def number_word(number):
    """The word of an integer, or None."""
    return NONE if number is None else str(number)


def pattern_words(pattern):
    """The list of the words of a pattern."""
    words = []
    for part in pattern:
        if part[0] == "own":
            words.append("own")
        elif part[0] == "fixed":
            words.extend(["fixed", text_word(part[1])])
        else:
            words.extend(["fill", part[1]])
    return words


def line_of(words):
    """The line of some words."""
    return " ".join(words)


def words_of(line):
    """The list of the words of a line, an empty one if they are not separated by one blank each."""
    words = line.split(" ")
    return [] if "" in words else words


def is_text_word(word):
    """Whether a word is that of a text."""
    return word.startswith("=") and is_text(word[1:])


def is_sign_word(word):
    """Whether a word is that of a sign."""
    return word.startswith("=") and is_sign(word[1:])


def is_number_word(word):
    """Whether a word is that of an integer."""
    digits = word[1:] if word.startswith("-") else word
    if word == "0":
        return True
    return 1 <= len(digits) <= MAX_DIGITS and digits.strip(DIGITS) == "" and not digits.startswith("0")


def is_entry_word(word):
    """Whether a word is that of an integer or of None."""
    return word == NONE or is_number_word(word)


def number_of_word(word):
    """The integer, or None, of its word."""
    return None if word == NONE else int(word)


def pattern_of_words(words):
    """The pattern of its words, None if they are not those of one."""
    parts = []
    at = 0
    while at < len(words):
        if words[at] == "own":
            parts.append(("own",))
            at = at + 1
        elif words[at] == "fixed" and at + 1 < len(words) and is_text_word(words[at + 1]):
            parts.append(("fixed", words[at + 1][1:]))
            at = at + 2
        elif words[at] == "fill" and at + 1 < len(words):
            parts.append(("hole", words[at + 1]))
            at = at + 2
        else:
            return None
    return tuple(parts)


def rows_of_lines(lines, row_of, following):
    """The list of the rows of some lines: pairs (word, place) and what the line tells.

    The row of a line is told by row_of, None if it has no form. Which words may stand behind which is told by
    following, for the first line by that of "". Lines of one word, one behind the other, ascend by their places,
    unless these are None.
    """
    if not isinstance(lines, str):
        raise InvalidText("a string is needed")
    rows = []
    word = ""
    place = None
    for number, line in enumerate(lines.split("\n")):
        row = row_of(words_of(line))
        if row is None or row[0] not in following[word]:
            raise ParseError(number)
        if row[0] == word and row[1] is not None and not place < row[1]:
            raise ParseError(number)
        word, place = row[:2]
        rows.append(row)
    return rows
