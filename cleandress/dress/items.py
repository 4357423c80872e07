"""Items: what a pattern leaves to be read or written, one behind the other in a queue.

An item is ("fixed", text), ("own", sign), or ("hole", name, run, count) with the index of a run and the number of signs
that it has given.
"""

from cleandress.dress.readers import count_behind


def takes_of_item(dress, item):
    """What can be taken from an item: pairs of a sign, or "", and of the items that are left of it then."""
    sort = item[0]
    if sort == "fixed":
        text = item[1]
        return [(text[0], (("fixed", text[1:]),) if len(text) > 1 else ())]
    if sort == "own":
        return [(item[1], ())]
    return takes_of_hole(dress, item)


def takes_of_hole(dress, item):
    """What can be taken from a hole: a sign of its run, or nothing, as it goes on to the next run."""
    _, name, run, count = item
    runs = dress[name].runs
    signs, low, high = runs[run]
    takes = []
    if count != high:
        grown = (("hole", name, run, count_behind(runs[run], count)),)
        takes = [(sign, grown) for sign in signs]
    if count >= low:
        takes.append(("", (("hole", name, run + 1, 0),) if run + 1 < len(runs) else ()))
    return takes
