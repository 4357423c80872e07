"""Paths: what is read along steps from a first standing to an end (see search)."""


def text_on(path):
    """The text that the first cleaner reads."""
    return "".join([taken for _, part, taken, _ in path if part == 0])


def item_read(step, part):
    """The item that a cleaner behind a dress reads in a step of a path, None if it does not read."""
    standing, due, _, _ = step
    if due != part or not standing[part][2]:
        return None
    return standing[part][2][0]


def fillings_on(path, dress, part):
    """The fillings of the holes of a dress that the cleaner behind it reads."""
    fillings = []
    signs = []
    for step in path:
        item = item_read(step, part)
        if item is None or item[0] != "hole":
            continue
        _, name, run, _ = item
        taken = step[2]
        signs.append(taken)
        if taken == "" and run + 1 == len(dress[name]):
            fillings.append("".join(signs))
            signs = []
    return fillings


def is_edited_item(item):
    """Whether an item, or None, is one at which signs are typed."""
    return item is not None and item[0] in ("ahead", "behind")


def is_typed_step(step, part):
    """Whether the last cleaner reads a typed sign in a step of a path."""
    item = item_read(step, part)
    # Where a typed sign is read, the item stays.
    return is_edited_item(item) and step[2] != "" and step[3][part][2][:1] == (item,)


def typed_by(step, part):
    """The sign that is typed in a step of a path, or None."""
    return step[2] if is_typed_step(step, part) else None


def edits_on(path, part):
    """What is done to the plain signs that the last cleaner reads: triples (typed ahead, sort, typed behind)."""
    edits = []
    sort = "own"
    ahead = []
    behind = []
    for step in path:
        item = item_read(step, part)
        if not is_edited_item(item):
            continue
        taken = step[2]
        if is_typed_step(step, part):
            typed = ahead if item[0] == "ahead" else behind
            typed.append(taken)
        elif item[0] == "ahead":
            sort = "own" if taken else "left"
        else:
            edits.append(("".join(ahead), sort, "".join(behind)))
            ahead, behind = [], []
    return edits
