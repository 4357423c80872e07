"""Dresses, cleaners and roads chosen by chance, small enough for all that is short to be tried one by one."""

import random

from cleandress.clean.cleaners import Cleaner, dropping, only_with, plain_cleaner, trimming
from cleandress.dress.dresses import Dress
from cleandress.dress.holes import Hole
from tests.oracle import chosen_runs

FEW = ("_", "a", "b")


def chosen_pattern(chance, names, own):
    parts = []
    for _ in range(chance.choice([0, 1, 1, 1, 2, 2, 3])):
        sort = chance.choice(["fixed", "own", "own", "hole"])
        if sort == "own" and own and ("own",) not in parts:
            parts.append(("own",))
        elif sort == "hole" and names:
            parts.append(("hole", chance.choice(names)))
        else:
            parts.append(("fixed", "".join(chance.choice(FEW) for _ in range(chance.choice([1, 1, 2, 3])))))
    return tuple(parts)


def chosen_hole(chance):
    runs = chosen_runs(chance, FEW)
    return Hole(*runs[:chance.choice([1, 1, 1, 2])])


def chosen_dress(chance, states=2, moves=1):
    names = ["x", "y"][:chance.randint(0, 2)]
    holes = {name: chosen_hole(chance) for name in names}
    many = chance.randint(1, states)
    rows = []
    for _ in range(many):
        row = {}
        for sign in chance.sample(FEW, chance.randint(0, moves)):
            row[sign] = (chosen_pattern(chance, names, True), chance.randrange(many))
        closing = chosen_pattern(chance, names, False) if chance.random() < 0.4 else ()
        rows.append((row, chance.randrange(many), closing))
    opening = chosen_pattern(chance, names, False) if chance.random() < 0.3 else ()
    return Dress(tuple(rows), holes, opening=opening)


def chosen_look(chance, many):
    rows = []
    for _ in range(many):
        row = {sign: chance.randrange(many) for sign in FEW if chance.random() < 0.7}
        rows.append((row, chance.randrange(many)))
    return tuple(rows)


def chosen_text(chance, most):
    return "".join(chance.choice(FEW) for _ in range(chance.randint(0, most)))


def chosen_cleaner(chance, views=2, states=2, refusing=0.2):
    if chance.random() < 0.4:
        ready = [plain_cleaner(), dropping(("_",)), trimming(("_",)), dropping(("a", "b")), trimming(("a", "b"))]
        return chance.choice(ready + [only_with("a")])
    seen = chance.randint(1, views)
    many = chance.randint(1, states)
    writer = []
    for _ in range(many):
        row = {}
        for sign in FEW:
            for view in [None] + list(range(seen)):
                if chance.random() < 0.3:
                    row[sign, view] = (chosen_text(chance, 2), chance.randrange(many))
        writer.append((row, chance.randrange(many), chance.choice(["", "", "", "a", "_b"])))
    firsts = tuple(None if chance.random() < refusing else chance.randrange(many) for _ in range(seen))
    return Cleaner(tuple(writer), look=chosen_look(chance, seen), firsts=firsts)


def chosen_road(chance, parts=3):
    road = [chosen_cleaner(chance)]
    for _ in range(parts // 2):
        road += [chosen_dress(chance), chosen_cleaner(chance)]
    return tuple(road)


def chosen_roads(seed, many, parts=3):
    chance = random.Random(seed)
    return [chosen_road(chance, parts) for _ in range(many)]


def seeing_cleaner(chance):
    """A cleaner with a look of three states, which all come, that drops and changes little."""
    look = chosen_look(chance, 3)
    row = {(sign, view): ("", 0) for sign in FEW for view in range(3) if chance.random() < 0.4}
    firsts = tuple(None if chance.random() < 0.2 else 0 for _ in range(3))
    return Cleaner(((row, 0, ""),), look=look, firsts=firsts)


def seeing_roads(seed, many):
    """Roads of three parts whose last cleaner has a look of three states."""
    chance = random.Random(seed)
    drops = [dropping(FEW), dropping(("_",)), trimming(("_",)), plain_cleaner(), only_with("a")]
    roads = []
    while len(roads) < many:
        last = seeing_cleaner(chance)
        if last.views_that_come() == (0, 1, 2):
            roads.append((chance.choice(drops), chosen_dress(chance, states=1), last))
    return roads
