"""Another way to tell fillings, by Python's own patterns, and holes to try it on."""

import itertools
import random
import re

from cleandress.dress.holes import Hole


def pattern_of(runs):
    parts = []
    for signs, low, high in runs:
        parts.append("[" + re.escape("".join(signs)) + "]{" + str(low) + "," + ("" if high is None else str(high)) + "}")
    return re.compile("".join(parts))


def all_texts(signs, many):
    """All texts by length, then in Python's order."""
    found = []
    for length in range(many + 1):
        found.extend(["".join(text) for text in itertools.product(signs, repeat=length)])
    return found


def told_fillings(runs, signs, many):
    pattern = pattern_of(runs)
    return [text for text in all_texts(signs, many) if pattern.fullmatch(text)]


def chosen_runs(chance, signs):
    runs = []
    for _ in range(chance.randint(1, 4)):
        low = chance.randint(0, 3)
        high = chance.choice([None] + list(range(max(low, 1), 4)))
        own = tuple([sign for sign in signs if chance.random() < 0.6])
        runs.append((own or (signs[0],), low, high))
    return tuple(runs)


def chosen_holes(seed, signs, many):
    chance = random.Random(seed)
    return [Hole(*chosen_runs(chance, signs)) for _ in range(many)]
