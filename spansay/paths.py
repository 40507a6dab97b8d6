"""Paths of a system, and the rooms to which they lead in a machine over its states."""

EMPTY = -1
NO_PATH = -2


def end_after(system, end, state):
    """Return the end of a row with this end and one state more."""
    if end == EMPTY or end >= 0 and state in system[2][end]:
        return state
    return NO_PATH


def states_after(system, state):
    """Return the list of the states to which one or more moves lead from a state."""
    found = [False] * len(system[2])
    waiting = [state]
    while waiting:
        for after in system[2][waiting.pop()]:
            if not found[after]:
                found[after] = True
                waiting.append(after)
    return [after for after in range(len(found)) if found[after]]


class Paths:
    """The rooms to which paths of a system lead in a machine over its states, as bits.

    What is told for each state is a list of integers, with the bits of rooms.
    """

    def __init__(self, system, machine):
        self.system = system
        self.rows = machine[1]
        self.moved = {}
        self.gone_on = {}
        every = range(len(system[0]))
        self.later = [states_after(system, state) for state in every]
        # The rooms of the path of one state alone, and of all paths that end there.
        self.alone = [1 << machine[1][0][state] for state in every]
        self.ending = self.going_on(self.alone)
        self.entered = self.behind_moves(self.ending)
        self.beginning = [self.from_state(state) for state in every]

    def step(self, rooms, state):
        """Return the rooms behind one state more."""
        key = (rooms, state)
        if key not in self.moved:
            found = 0
            for room, row in enumerate(self.rows):
                if rooms >> room & 1:
                    found |= 1 << row[state]
            self.moved[key] = found
        return self.moved[key]

    def nowhere(self):
        """Return the list of no rooms for each state."""
        return [0] * len(self.system[0])

    def behind_moves(self, told):
        """Return what is told behind one move more."""
        found = self.nowhere()
        for state, rooms in enumerate(told):
            for after in self.system[2][state]:
                found[after] |= self.step(rooms, after)
        return found

    def going_on(self, told):
        """Return what is told behind any number of moves, also none."""
        found = list(told)
        waiting = [state for state in range(len(found)) if found[state]]
        while waiting:
            state = waiting.pop()
            for after in self.system[2][state]:
                rooms = found[after] | self.step(found[state], after)
                if rooms != found[after]:
                    found[after] = rooms
                    waiting.append(after)
        return found

    def from_state(self, state):
        """Return the rooms of all paths that begin with a state."""
        told = self.nowhere()
        told[state] = self.alone[state]
        return any_rooms(self.going_on(told))

    def further(self, state, rooms):
        """Return the rooms of all paths that go on by one move or more from a state and rooms."""
        key = (state, rooms)
        if key not in self.gone_on:
            told = self.nowhere()
            told[state] = rooms
            self.gone_on[key] = any_rooms(self.going_on(self.behind_moves(told)))
        return self.gone_on[key]

    def from_later(self, state):
        """Return the rooms of all paths that begin one or more moves behind a state."""
        return any_rooms([self.beginning[after] for after in self.later[state]])

    def to_earlier(self, state):
        """Return the rooms of all paths that end one or more moves ahead of a state."""
        return any_rooms([self.ending[ahead] for ahead, later in enumerate(self.later) if state in later])


def any_rooms(told):
    """Return all rooms of a list of rooms, told by bits."""
    rooms = 0
    for some in told:
        rooms |= some
    return rooms
