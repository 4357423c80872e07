"""Readers of runs: which texts are fillings of a hole.

A place is a pair (run, count): the index of a run, and the number of signs that it has given.
Behind the last run there is the one place (number of runs, 0). One text can lead to several places,
if runs share signs. So a state of a reader is the set of all of them, as an ascending tuple:
then each text leads to one state, and is found and counted once.

A reader is a pair (wholes, moves), each with an entry for each state. That of wholes tells whether
what has been read is a filling; that of moves is a dict from signs to states, ascending. A sign that
it has not leads to no filling. From each state there is a way to some filling. Reading begins in state 0.
"""

from cleandress.base.signs import SIGNS


def reader_of(runs):
    """The reader of some runs."""
    start = tuple(places_ahead(runs, 0, 0))
    numbers = {start: 0}
    states = [start]
    moves = []
    while len(moves) < len(states):
        row = {}
        for sign in SIGNS:
            reached = places_behind(runs, states[len(moves)], sign)
            if reached and reached not in numbers:
                numbers[reached] = len(states)
                states.append(reached)
            if reached:
                row[sign] = numbers[reached]
        moves.append(row)
    wholes = [(len(runs), 0) in places for places in states]
    return tuple(wholes), tuple(moves)


def places_ahead(runs, run, count):
    """A place, and those to which it goes on without a sign, as the runs have enough of them."""
    places = [(run, count)]
    while run < len(runs) and count >= runs[run][1]:
        run = run + 1
        count = 0
        places.append((run, count))
    return places


def places_behind(runs, places, sign):
    """The ascending tuple of the places to which a sign leads from some places."""
    found = []
    for run, count in places:
        if run < len(runs) and sign in runs[run][0] and count != runs[run][2]:
            found.extend(places_ahead(runs, run, count_behind(runs[run], count)))
    return tuple(sorted(set(found)))


def count_behind(run, count):
    """The count behind one more sign of a run."""
    _, low, high = run
    # Without a high, what goes beyond low makes no difference, and would make states without end.
    return min(count + 1, low) if high is None else count + 1


def state_behind(reader, state, sign):
    """The state to which a sign leads, None if to none; None leads to None."""
    _, moves = reader
    return None if state is None else moves[state].get(sign)


def is_whole(reader, state):
    """Whether a state, or None, is that of a filling."""
    wholes, _ = reader
    return state is not None and wholes[state]


def reads(reader, text):
    """Whether a text is a filling."""
    state = 0
    for sign in text:
        state = state_behind(reader, state, sign)
        if state is None:
            return False
    return is_whole(reader, state)


def count_of(reader, many):
    """How many fillings have just so many signs."""
    wholes, moves = reader
    counts = {0: 1}
    for _ in range(many):
        counts = counts_behind(moves, counts)
    return sum([counts[state] for state in counts if wholes[state]])


def counts_behind(moves, counts):
    """How many texts lead to each state, from how many lead to each one a sign earlier."""
    found = {}
    for state, number in counts.items():
        for reached in moves[state].values():
            found[reached] = found.get(reached, 0) + number
    return found


def fillings_within(reader, many):
    """All fillings of at most so many signs, each once, by length, then in Python's order."""
    _, moves = reader
    ends = ends_within(reader, many)
    for length in range(many + 1):
        waiting = [("", 0)] if ends[length][0] else []
        while waiting:
            text, state = waiting.pop()
            if len(text) == length:
                yield text
                continue
            # Only what some filling of this length begins with is followed: the next one is never far.
            possible = ends[length - len(text) - 1]
            # The last item is popped first, so the signs go in from the greatest one.
            for sign, reached in reversed(list(moves[state].items())):
                if possible[reached]:
                    waiting.append((text + sign, reached))


def order_of(reader, many):
    """What is needed to go through all fillings of at most so many signs one by one."""
    return reader, ends_within(reader, many)


def filling_from(order, length):
    """The first filling with at least so many signs, None if there is none in this order."""
    reader, ends = order
    while length < len(ends):
        if ends[length][0]:
            return least_text(reader, ends, 0, length)
        length = length + 1
    return None


def filling_behind(order, filling):
    """The filling behind one in an order, None behind the last one."""
    reader, ends = order
    _, moves = reader
    states = [0]
    for sign in filling:
        states.append(moves[states[-1]][sign])
    for at in reversed(range(len(filling))):
        left = len(filling) - at - 1
        for sign, reached in moves[states[at]].items():
            if sign > filling[at] and ends[left][reached]:
                return filling[:at] + sign + least_text(reader, ends, reached, left)
    return filling_from(order, len(filling) + 1)


def least_text(reader, ends, state, length):
    """The least text with so many signs, of which there is one, that makes a filling from a state on."""
    _, moves = reader
    text = ""
    for left in reversed(range(length)):
        # The signs of a move ascend.
        possible = [(sign, reached) for sign, reached in moves[state].items() if ends[left][reached]]
        sign, state = possible[0]
        text = text + sign
    return text


def ends_within(reader, many):
    """A list for each number of signs up to many: for each state, whether just so many make a filling."""
    wholes, moves = reader
    ends = [list(wholes)]
    for _ in range(many):
        nearer = ends[-1]
        ends.append([any([nearer[reached] for reached in row.values()]) for row in moves])
    return ends


def first_read_beyond(reader, other):
    """The first filling of one reader that is none of the other, or None."""
    wholes, moves = reader
    found = {(0, 0): True}
    # Texts wait by length, then in Python's order; of those that lead to one pair the first is enough.
    waiting = [("", 0, 0)]
    at = 0
    while at < len(waiting):
        text, state, beside = waiting[at]
        if wholes[state] and not is_whole(other, beside):
            return text
        for sign, reached in moves[state].items():
            pair = (reached, state_behind(other, beside, sign))
            if pair not in found:
                found[pair] = True
                waiting.append((text + sign, *pair))
        at += 1
    return None
