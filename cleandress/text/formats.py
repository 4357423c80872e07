"""Texts of dresses, cleaners and histories: written, and read back."""

from cleandress.clean.cleaners import Cleaner
from cleandress.dress.dresses import Dress
from cleandress.errors import InvalidCleaner, InvalidDress, InvalidHole, InvalidOperation, ParseError
from cleandress.house.histories import is_history
from cleandress.text.rows import cleaner_of_rows, cleaner_row, deed_row, dress_of_rows, dress_row, place_of_key
from cleandress.text.words import line_of, number_word, pattern_words, rows_of_lines, text_word

# Which lines may stand behind which: by their first words, "" standing for the beginning.
DRESS_LINES = {
    "": ("hole", "opening"),
    "hole": ("hole", "opening"),
    "opening": ("state",),
    "state": ("on", "closing"),
    "on": ("on", "closing"),
    "closing": ("state",),
}
CLEANER_LINES = {
    "": ("look",),
    "look": ("look", "from", "firsts"),
    "from": ("look", "from", "firsts"),
    "firsts": ("write",),
    "write": ("write", "on"),
    "on": ("write", "on"),
}
DEEDS = ("use", "put", "move", "take", "store")


def write_dress(dress):
    """The text of a dress."""
    if not isinstance(dress, Dress):
        raise InvalidDress("a dress is needed")
    lines = []
    for name, hole in dress.holes.items():
        words = ["hole", name]
        for signs, low, high in hole:
            words.extend([text_word("".join(signs)), number_word(low), number_word(high)])
        lines.append(line_of(words))
    lines.append(line_of(["opening", *pattern_words(dress.opening)]))
    for moves, other, closing in dress.states:
        lines.append(line_of(["state", number_word(other)]))
        for sign, (pattern, state) in moves.items():
            lines.append(line_of(["on", text_word(sign), number_word(state), *pattern_words(pattern)]))
        lines.append(line_of(["closing", *pattern_words(closing)]))
    return "\n".join(lines)


def read_dress(lines):
    """The dress with a text."""
    rows = rows_of_lines(lines, dress_row, dict(DRESS_LINES))
    try:
        return dress_of_rows(rows)
    except (InvalidHole, InvalidDress):
        raise ParseError(len(rows)) from None


def write_cleaner(cleaner):
    """The text of a cleaner."""
    if not isinstance(cleaner, Cleaner):
        raise InvalidCleaner("a cleaner is needed")
    lines = []
    for moves, other in cleaner.look:
        lines.append(line_of(["look", number_word(other)]))
        for sign in sorted(moves):
            lines.append(line_of(["from", text_word(sign), number_word(moves[sign])]))
    lines.append(line_of(["firsts", *[number_word(state) for state in cleaner.firsts]]))
    for moves, other, last in cleaner.writer:
        lines.append(line_of(["write", number_word(other), text_word(last)]))
        for sign, view in sorted(moves, key=place_of_key):
            text, state = moves[sign, view]
            lines.append(line_of(["on", text_word(sign), number_word(view), number_word(state), text_word(text)]))
    return "\n".join(lines)


def read_cleaner(lines):
    """The cleaner with a text, with any number of states, that writes texts of any length."""
    rows = rows_of_lines(lines, cleaner_row, dict(CLEANER_LINES))
    try:
        return cleaner_of_rows(rows)
    except InvalidCleaner:
        raise ParseError(len(rows)) from None


def write_history(history):
    """The text of a history."""
    if not is_history(history):
        raise InvalidOperation("a history of at most forty deeds is needed")
    return "\n".join([line_of(words_of_deed(deed)) for deed in history])


def words_of_deed(deed):
    """The list of the words of a deed."""
    word, told, *rest = deed
    if word == "use":
        return [word, told]
    texts = rest[0] if word == "take" else rest
    return [word, text_word(told), *[text_word(text) for text in texts]]


def read_history(lines):
    """The history with a text."""
    if lines == "":
        return ()
    rows = rows_of_lines(lines, deed_row, {word: DEEDS for word in ("", *DEEDS)})
    history = tuple([deed for _, _, deed in rows])
    if not is_history(history):
        raise ParseError(len(rows))
    return history
