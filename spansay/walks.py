"""Walks through a system: its tracks, with the rooms to which a machine leads behind them.

Steps are a row for each room, with a room for each state of the system: the
room behind one state more. A pair is one of a state and a room.
"""


def steps_of(system, machine):
    """Return the steps of a machine over the scenes."""
    places = [machine[0].index(scene) for scene in system[0]]
    return [[row[place] for place in places] for row in machine[1]]


def first_pairs(system, steps):
    """Return the list of the pairs of the tracks of one state."""
    return [(state, steps[0][state]) for state in system[1]]


def pairs_behind(system, steps, pair):
    """Return the list of the pairs to which a move leads from a pair."""
    state, room = pair
    return [(after, steps[room][after]) for after in system[2][state]]


def walked(system, steps):
    """Return the dict of the pairs to which tracks lead, each with the pair ahead of it, or None.

    They stand in the order of the first tracks that lead to them.
    """
    order = first_pairs(system, steps)
    came = {pair: None for pair in order}
    at = 0
    while at < len(order):
        pair = order[at]
        at += 1
        for after in pairs_behind(system, steps, pair):
            if after not in came:
                came[after] = pair
                order.append(after)
    return came


def track_to(came, pair):
    """Return the first track that leads to a pair."""
    states = []
    while pair is not None:
        states.append(pair[0])
        pair = came[pair]
    return tuple(reversed(states))


def first_track(came, wanted):
    """Return the first track to a room that is wanted (a list with True or False), None if there is none."""
    for pair in came:
        if wanted[pair[1]]:
            return track_to(came, pair)
    return None


def count_walks(system, steps, many, wanted):
    """Return the number of the tracks of so many states to rooms that are wanted."""
    counts = {pair: 1 for pair in first_pairs(system, steps)}
    for _ in range(many - 1):
        coming = {}
        for pair in counts:
            for after in pairs_behind(system, steps, pair):
                coming[after] = coming.get(after, 0) + counts[pair]
        counts = coming
    return sum([counts[pair] for pair in counts if wanted[pair[1]]])
