"""Lines: which dress and which cleaner count for a path."""

from cleandress.base.integers import is_number
from cleandress.base.signs import SIGNS, is_text
from cleandress.clean.cleaners import Cleaner, plain_cleaner
from cleandress.dress.dresses import Dress, plain_dress
from cleandress.errors import InvalidLines, InvalidNumber, InvalidOperation, InvalidText, TooMany
from cleandress.house.fitting import ANY, STAR, Fitting, fitting_ones, last_one, places_behind, places_of

MAX_LINES = 8
MAX_PATH = 12
MAX_TUPLES = 2000


class Lines:
    """Up to eight lines (path pattern, dress, cleaner), which never change."""

    def __init__(self, *lines):
        if len(lines) > MAX_LINES or not all([is_line(line) for line in lines]):
            raise InvalidLines("there are up to eight lines (path pattern, dress, cleaner)")
        self._lines = lines
        self._fitting = Fitting([line[0] for line in lines])

    @classmethod
    def of(cls, lines):
        """The Lines of a tuple of lines."""
        if not isinstance(lines, tuple):
            raise InvalidLines("lines must be a tuple")
        return cls(*lines)

    def number_of(self, path):
        """The number of the line that counts for a path, None if there is none."""
        check_path(path)
        return last_one(fitting_ones(self._fitting, places_of(self._fitting, path)))

    def dress_of(self, path):
        """The dress that counts for a path."""
        return dress_at(self, self.number_of(path))

    def cleaner_of(self, path):
        """The cleaner that counts for a path."""
        return cleaner_at(self, self.number_of(path))

    def __getitem__(self, number):
        if not is_number(number, 0, len(self._lines) - 1):
            raise InvalidNumber(number)
        return self._lines[number]

    def __contains__(self, value):
        return value in self._lines

    def __add__(self, other):
        if not isinstance(other, Lines):
            raise InvalidOperation("only lines can be added to lines")
        lines = self._lines + other._lines
        return Lines(*lines)

    def __eq__(self, other):
        return isinstance(other, Lines) and self._lines == other._lines

    def __len__(self):
        return len(self._lines)

    def __iter__(self):
        return iter(self._lines)

    def __str__(self):
        return f"lines for {len(self._lines)} patterns"


def dress_at(lines, number):
    """The dress of a line by its number, the plain one if no line counts."""
    return plain_dress() if number is None else lines[number][1]


def cleaner_at(lines, number):
    """The cleaner of a line by its number, the plain one if no line counts."""
    return plain_cleaner() if number is None else lines[number][2]


def is_path(value):
    """Whether the value is a text of one to twelve signs."""
    return is_text(value) and 1 <= len(value) <= MAX_PATH


def is_path_pattern(value):
    """Whether the value is a string of one to twelve characters: signs, stars and question marks."""
    return isinstance(value, str) and 1 <= len(value) <= MAX_PATH and value.strip(SIGNS + STAR + ANY) == ""


def check_path(value):
    """Raises an error if the value is no path."""
    if not is_path(value):
        raise InvalidText("a path of one to twelve signs is needed")


def fits(pattern, path):
    """Whether a path pattern fits a path."""
    if not is_path_pattern(pattern):
        raise InvalidText("a path pattern of one to twelve characters is needed")
    check_path(path)
    fitting = Fitting([pattern])
    return fitting_ones(fitting, places_of(fitting, path)) == [True]


def is_line(value):
    """Whether the value is a triple of a path pattern, a dress and a cleaner."""
    if not isinstance(value, tuple) or len(value) != 3:
        return False
    pattern, dress, cleaner = value
    return is_path_pattern(pattern) and isinstance(dress, Dress) and isinstance(cleaner, Cleaner)


def path_classes(many):
    """A dict from the first path of each class to the tuple of the numbers of the lines that count for it.

    Paths are of one class if the same line, or none, counts for them in each of the Lines.
    """
    if not isinstance(many, tuple) or not many or not all([isinstance(lines, Lines) for lines in many]):
        raise InvalidLines("a tuple of at least one Lines is needed")
    fitting = Fitting([line[0] for lines in many for line in lines])
    met = {}
    for places, path in first_paths(fitting).items():
        met.setdefault(numbers_by(many, fitting_ones(fitting, places)), path)
    return {path: numbers for numbers, path in met.items()}


def first_paths(fitting):
    """A dict from the sets of places to which paths lead to the first path that leads there, in their order."""
    found = {}
    level = [(fitting.first, "")]
    for _ in range(MAX_PATH):
        later = []
        # A copy, as a level is the list that was filled in the turn before.
        for places, text in list(level):
            for sign in SIGNS:
                reached = places_behind(fitting, places, sign)
                if reached not in found:
                    # The places of the empty text count, too: where there is a pattern, no path leads there.
                    if len(found) + 1 == MAX_TUPLES:
                        raise TooMany(MAX_TUPLES)
                    found[reached] = text + sign
                    later.append((reached, text + sign))
        level = later
    return found


def numbers_by(many, marks):
    """The tuple of the numbers of the lines that count, by what tells for each line of all whether it fits."""
    numbers = []
    at = 0
    for lines in many:
        numbers.append(last_one(marks[at:at + len(lines)]))
        at = at + len(lines)
    return tuple(numbers)


def idle_lines(lines):
    """The ascending tuple of the numbers of the lines that count for no path."""
    if not isinstance(lines, Lines):
        raise InvalidLines("lines are needed")
    counting = [numbers[0] for numbers in path_classes((lines,)).values()]
    return tuple([number for number in range(len(lines)) if number not in counting])
