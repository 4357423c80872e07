"""Every history: what holds for a house whatever is done in it, by finitely many roads."""

from cleandress.errors import InvalidOperation
from cleandress.house.deeds import DONE, REFUSED, STIRRED, is_deed, outcome_of
from cleandress.house.house import House, check_books
from cleandress.house.lines import cleaner_at, dress_at, path_classes
from cleandress.judge.still import is_still, still_paper
from cleandress.walk.standings import in_order

MAX_DEEDS = 40


def is_history(value):
    """Whether the value is a tuple of at most forty deeds."""
    return isinstance(value, tuple) and len(value) <= MAX_DEEDS and all([is_deed(deed) for deed in value])


def lived(books, book, history):
    """The house behind a history."""
    house = House(books, book)
    if not is_history(history):
        raise InvalidOperation("a history of at most forty deeds is needed")
    for deed in history:
        if outcome_of(house, deed) not in (DONE, STIRRED):
            raise InvalidOperation("the history does not fit, or its last deed is refused")
    return house


def is_stirring_history(books, book, value):
    """Whether the value is a history of at most forty deeds that fits and stirs."""
    house = House(books, book)
    if not is_history(value) or not value:
        return False
    outcomes = [outcome_of(house, deed) for deed in value]
    return all([outcome in (DONE, STIRRED) for outcome in outcomes[:-1]]) and outcomes[-1] in (STIRRED, REFUSED)


def roads_of(books):
    """The tuple of the triples of (book, number) that make the roads on which all must be still, ascending by repr."""
    return in_order(roads_by(classes_of(books)))


def classes_of(books):
    """A dict from the first path of each class to the list of the pairs (book, number) that count for it."""
    check_books(books)
    names = sorted(books)
    classes = path_classes(tuple([books[name] for name in names]))
    return {path: list(zip(names, numbers)) for path, numbers in classes.items()}


def roads_by(classes):
    """The list of the roads, by the pairs (book, number) that count for the classes of paths."""
    firsts = {pair: True for pairs in classes.values() for pair in pairs}
    lasts = {(pair, other): True for pairs in classes.values() for pair in pairs for other in pairs}
    return [(first, *both) for first in firsts for both in lasts]


def nothing_stirs(books, book):
    """Whether no history stirs, of any length."""
    House(books, book)
    return stirring_road(books, classes_of(books)) is None


def stirring_history(books, book):
    """A history of at most seven deeds that stirs, None if there is none."""
    House(books, book)
    classes = classes_of(books)
    found = stirring_road(books, classes)
    if found is None:
        return None
    _, text, dressings = still_paper(road_with(books, found))
    first, second, third = found
    path = path_with(classes, [first])
    other = path_with(classes, [second, third])
    fillings = tuple([piece[1] for row in dressings[0] for piece in row if piece[0] == "filled"])
    deeds = [("use", first[0]), ("put", path, text)]
    if path != other:
        deeds.append(("move", path, other))
    return (*deeds, ("use", second[0]), ("take", other, fillings), ("use", third[0]), ("store", other))


def path_with(classes, wanted):
    """The first path for which some pairs (book, number) count."""
    return [path for path, pairs in classes.items() if all([pair in pairs for pair in wanted])][0]


def stirring_road(books, classes):
    """The first triple of pairs (book, number) whose road is not still, None if there is none."""
    parts = parts_of(books, classes)
    still = {}
    found = None
    for triple in roads_by(classes):
        first, second, third = triple
        # Lines can be alike. Each road is tried, as any of them can have too many standings.
        alike = (parts[first][0], parts[second][1], parts[third][0])
        if alike not in still:
            still[alike] = is_still(road_with(books, triple))
        if not still[alike] and found is None:
            found = triple
    return found


def parts_of(books, classes):
    """A dict from the pairs (book, number) to a number of the cleaner and one of the dress; equal ones have one."""
    cleaners = []
    dresses = []
    parts = {}
    for pairs in classes.values():
        for name, number in pairs:
            cleaner, dress = cleaner_at(books[name], number), dress_at(books[name], number)
            if cleaner not in cleaners:
                cleaners.append(cleaner)
            if dress not in dresses:
                dresses.append(dress)
            parts[name, number] = (cleaners.index(cleaner), dresses.index(dress))
    return parts


def road_with(books, triple):
    """The road of a triple of pairs (book, number)."""
    first, second, third = triple
    cleaner = cleaner_at(books[first[0]], first[1])
    return cleaner, dress_at(books[second[0]], second[1]), cleaner_at(books[third[0]], third[1])
