"""Rests: what may be read next, behind a room of a machine.

The empty rest is told apart from the others: behind the empty row it is no run.
"""

from spansay.merging import first_row_to


def with_start(moves, room):
    """Return moves in which the number 0 is a room by itself, from which letters lead as from a room."""
    # The rooms of the moves are one greater here: no letter leads back to the first one.
    rows = [[after + 1 for after in row] for row in moves]
    return [rows[room]] + rows


def first_rest(moves, room, wanted, is_empty_wanted):
    """Return the list of the letters of the first rest from a room to one that is wanted, or None."""
    return first_row_to(with_start(moves, room), [is_empty_wanted] + wanted)


def rooms_ahead(moves, room):
    """Return the list of the rooms to which letters lead from a room, one or more."""
    met = [False] * len(moves)
    waiting = [room]
    found = []
    while waiting:
        for after in moves[waiting.pop()]:
            if not met[after]:
                met[after] = True
                found.append(after)
                waiting.append(after)
    return found


def count_rests_to(moves, room, many, wanted):
    """Return the number of the rests of so many letters from a room to one that is wanted."""
    counts = {room: 1}
    for _ in range(many):
        coming = {}
        for at in counts:
            for after in moves[at]:
                coming[after] = coming.get(after, 0) + counts[at]
        counts = coming
    return sum([counts[at] for at in counts if wanted[at]])
