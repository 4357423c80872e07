"""Other ways to tell what walks do: short ones are tried one by one, by what cleaners and dresses do to texts alone."""

import itertools

from cleandress.dress.dresses import dressed_text
from tests.oracle import all_texts

# How many dressings of one text are tried at most.
MOST = 60


def walks_from(road, text, many):
    """Pairs (dressings, what comes along), for all or many dressings with short fillings."""
    rows = [((), (text, road[0](text)))]
    for dress, cleaner in zip(road[1::2], road[2::2]):
        longer = []
        for dressings, told in rows:
            if told[-1] is None:
                longer.append((dressings, told))
                continue
            for dressing in itertools.islice(dress.dressings(told[-1], many=many), MOST):
                dressed = dressed_text(dressing)
                longer.append((dressings + (dressing,), told + (dressed, cleaner(dressed))))
        rows = longer
    return rows


def short_walks(road, signs, length, many):
    """Triples (text, dressings, what comes along) for all short texts of some signs."""
    return [(text, *walk) for text in all_texts(signs, length) for walk in walks_from(road, text, many)]


def comes_to_last(road, told):
    return len(told) == len(road) + 1


def least_stirring(road, signs, length, many):
    """The least number of signs handed to the last dress in a short walk that does not come back, or None."""
    costs = [len(told[-3]) for _, _, told in short_walks(road, signs, length, many)
             if comes_to_last(road, told) and told[-1] != told[-3]]
    return min(costs, default=None)


def least_telling(road, signs, length, many):
    """The least number of signs that are dressed in two short walks with different results, or None."""
    costs = []
    for text in all_texts(signs, length):
        walks = [told for _, told in walks_from(road, text, many) if comes_to_last(road, told)]
        if len(set(told[-1] for told in walks)) > 1:
            costs.append(len(walks[0][1]))
    return min(costs, default=None)


def edits_of(dressing, plain, typed):
    """All edits of a dressing in which at most one sign is typed on each side of a plain one."""
    texts = [()] + [(("typed", sign),) for sign in typed]
    choices = []
    for at, row in enumerate(dressing):
        if at - 1 in plain:
            sign = row[0][1]
            choices.append([(*ahead, (sort, sign), *behind) for ahead in texts for sort in ("own", "left") for behind in texts])
        else:
            choices.append([row])
    return [tuple(rows) for rows in itertools.product(*choices)]


def told_edited(edit):
    return "".join(text for row in edit for sort, text in row if sort != "left")


def told_wanted(text, edit, plain):
    parts = []
    for at, (sign, row) in enumerate(zip(text, edit[1:-1])):
        if at in plain:
            parts += [told for sort, told in row if sort != "left"]
        else:
            parts.append(sign)
    return "".join(parts)


def short_edits(road, signs, length, many, typed):
    """Tuples (text, what is dressed, edit, its cost, wanted, result) for all short texts of some signs."""
    rows = []
    for text in all_texts(signs, length):
        handed = road[0](text)
        if handed is None or len(handed) > 3:
            continue
        plain = road[1].plain(handed)
        for dressing in itertools.islice(road[1].dressings(handed, many=many), 8):
            for edit in edits_of(dressing, plain, typed):
                cost = len(handed) + sum(len(told) for row in edit for sort, told in row if sort == "typed")
                rows.append((text, handed, edit, cost, told_wanted(handed, edit, plain), road[2](told_edited(edit))))
    return rows
