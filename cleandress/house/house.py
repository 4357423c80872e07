"""Houses: books of lines, texts stored under paths, and copies of them, dressed."""

from cleandress.base.integers import is_natural
from cleandress.base.names import is_name
from cleandress.base.signs import check_passed
from cleandress.clean.cleaners import result_of
from cleandress.dress.dresses import dressed_text, dressing_by
from cleandress.errors import InvalidNumber, InvalidOperation, NothingToUndo, Refused, UnknownName
from cleandress.house.lines import Lines, check_path

MAX_BOOKS = 4


class Moment:
    """What a house is between two calls, which never changes, and the moment ahead of it.

    It has the name of the book that is used, dicts from paths, which ascend, to the texts that are kept and to the
    copies that lie there, and the number of the moments ahead.
    """

    def __init__(self, used, kept, lying, before):
        self.used = used
        self.kept = kept
        self.lying = lying
        self.before = before
        self.many = 0 if before is None else before.many + 1


class Undone:
    """A moment that can be done again, the one that comes behind it, if there is one, and their number."""

    def __init__(self, moment, rest):
        self.moment = moment
        self.rest = rest
        self.many = 1 if rest is None else rest.many + 1


class House:
    """A house with books, one of which is in use; a new one has no texts."""

    def __init__(self, books, book):
        check_books(books)
        if not is_name(book) or book not in books:
            raise UnknownName(book)
        self._books = {name: books[name] for name in sorted(books)}
        self._now = Moment(book, {}, {}, None)
        self._undone = None

    @property
    def books(self):
        """A dict from the names of the books to their lines."""
        return dict(self._books)

    @property
    def book(self):
        """The name of the book in use."""
        return self._now.used

    @property
    def stored(self):
        """A dict from paths to the texts that are stored."""
        return dict(self._now.kept)

    @property
    def copies(self):
        """A dict from paths to the dressed texts that lie there."""
        return dict(self._now.lying)

    def use(self, book):
        """Takes a book into use."""
        if not is_name(book) or book not in self._books:
            raise UnknownName(book)
        self._go_on(book, self._now.kept, self._now.lying)

    def put(self, path, text):
        """Stores what the cleaner makes of a text under a path; returns it."""
        check_path(path)
        check_passed(text)
        cleaned = self._cleaned(path, text)
        now = self._now
        self._go_on(now.used, with_text(now.kept, path, cleaned), without_text(now.lying, path))
        return cleaned

    def move(self, path, other):
        """Stores a text under another path instead."""
        check_path(path)
        check_path(other)
        now = self._now
        if path not in now.kept:
            raise UnknownName(path)
        if path in now.lying or other in now.kept:
            raise InvalidOperation("a copy lies there, or something is stored under the other path")
        self._go_on(now.used, with_text(without_text(now.kept, path), other, now.kept[path]), now.lying)

    def take(self, path, fillings):
        """Dresses a stored text with some fillings; returns the copy."""
        check_path(path)
        now = self._now
        if path not in now.kept:
            raise UnknownName(path)
        copy = dressed_text(dressing_by(self._books[now.used].dress_of(path), now.kept[path], fillings))
        self._go_on(now.used, now.kept, with_text(now.lying, path, copy))
        return copy

    def store(self, path):
        """Stores what the cleaner makes of a copy; returns whether this is another text than before."""
        check_path(path)
        now = self._now
        if path not in now.lying:
            raise UnknownName(path)
        cleaned = self._cleaned(path, now.lying[path])
        self._go_on(now.used, with_text(now.kept, path, cleaned), without_text(now.lying, path))
        return cleaned != now.kept[path]

    def undo(self, *, many=1):
        """Takes back so many calls; returns how many can be undone then."""
        check_many(many, self._now.many)
        for _ in range(many):
            self._undone = Undone(self._now, self._undone)
            self._now = self._now.before
        return self._now.many

    def redo(self, *, many=1):
        """Does so many calls again; returns how many can be undone then."""
        check_many(many, 0 if self._undone is None else self._undone.many)
        for _ in range(many):
            self._now = self._undone.moment
            self._undone = self._undone.rest
        return self._now.many

    def trial(self):
        """A block at whose end the house is as at its beginning."""
        return Trial(self)

    def during(self, call):
        """What a call with the house returns; the house is as before then."""
        with self.trial() as same:
            told = call(same)
        return told

    def twin(self):
        """An independent copy of the house, also of what can be undone and done again."""
        other = House(self._books, self._now.used)
        other._now = self._now
        other._undone = self._undone
        return other

    def _go_on(self, book, stored, copies):
        """Changes what the house is; nothing can be done again then."""
        self._now = Moment(book, stored, copies, self._now)
        self._undone = None

    def _cleaned(self, path, text):
        """What the cleaner that counts for a path makes of a text of any length."""
        cleaned = result_of(self._books[self._now.used].cleaner_of(path), text)
        if cleaned is None:
            raise Refused(text)
        return cleaned

    def __contains__(self, value):
        return isinstance(value, str) and value in self._now.kept

    def __eq__(self, other):
        if not isinstance(other, House):
            return False
        if self._books != other._books or self._now.used != other._now.used:
            return False
        return (self._now.kept, self._now.lying) == (other._now.kept, other._now.lying)

    def __len__(self):
        return len(self._now.kept)

    def __iter__(self):
        return iter(self._now.kept)

    def __str__(self):
        return f"house of {len(self._now.kept)} texts, {len(self._now.lying)} copies"


class Beginning:
    """What a house was at the beginning of a block, and the one of the block around it in the same trial."""

    def __init__(self, now, undone, outer):
        self.now = now
        self.undone = undone
        self.outer = outer


class Trial:
    """Blocks at whose end a house is as at their beginning."""

    def __init__(self, house):
        self._house = house
        self._begun = None

    def __enter__(self):
        self._begun = Beginning(self._house._now, self._house._undone, self._begun)
        return self._house

    def __exit__(self, kind, value, trace):
        house = self._house
        house._now = self._begun.now
        house._undone = self._begun.undone
        self._begun = self._begun.outer


def check_books(value):
    """Raises an error if the value is no dict from one to four names to Lines."""
    if not isinstance(value, dict) or not 1 <= len(value) <= MAX_BOOKS:
        raise InvalidOperation("books are a dict from one to four names to lines")
    if not all([is_name(name) and isinstance(lines, Lines) for name, lines in value.items()]):
        raise InvalidOperation("books are a dict from one to four names to lines")


def check_many(value, most):
    """Raises an error if the value is no number of calls, or more than there are."""
    if not is_natural(value):
        raise InvalidNumber(value)
    if value > most:
        raise NothingToUndo(value)


def with_text(texts, path, text):
    """The same texts and one under a path; the paths ascend."""
    more = {**texts, path: text}
    return {key: more[key] for key in sorted(more)}


def without_text(texts, path):
    """The same texts but for that under a path."""
    return {key: text for key, text in texts.items() if key != path}
