"""The states of the parts of a saying behind rows of states of a system.

As in states.py each class tells of one form of parts, with the same methods.
"""

from spansay.machines import lets_of
from spansay.paths import EMPTY, NO_PATH, Paths, any_rooms, end_after
from spansay.spans import is_pair

# The pairs of a path of one state: its own room, those of the paths that lead into it, or its state.
BEGUN_BY = {
    "begins": "room",
    "begun": "room",
    "ended": "entered",
    "around": "entered",
    "overlapped": "entered",
    "met": "state",
    "earlier": "state",
}
# The ways whose sets get the room of the last state alone with each state more.
GAINING = ("ends", "overlaps", "during")
# The ways whose sets have pairs with 1: the rooms of what does not reach up to the last state.
MARKING = ("begins", "during", "overlapped")
# The ways whose sets have no pairs.
BARE = ("meets", "later")


def is_end(system, value):
    """Return True if a value is an end of rows."""
    return isinstance(value, int) and NO_PATH <= value < len(system[0])


def is_tuple_of(value, many):
    """Return True if a value is a tuple with so many values."""
    return isinstance(value, tuple) and len(value) == many


def are_numbers(values, many):
    """Return True if values are integers from 0 on, and less than so many."""
    return all([isinstance(value, int) and 0 <= value < many for value in values])


class CountStates:
    """States that are an end and a small number: what both `point` and `fact` have."""

    def told(self, state):
        return state

    def set_in(self, state):
        return None

    def is_good(self, state):
        return state[0] >= 0 and state[1] == 1


class LengthStates(CountStates):
    """The states of `point`: the number of states of a row, but at most 2."""

    def __init__(self, system):
        self.system = system

    def start(self):
        return (EMPTY, 0)

    def after(self, state, at):
        end = end_after(self.system, state[0], at)
        return (end, 0 if end == NO_PATH else min(state[1] + 1, 2))

    def understood(self, value):
        if not is_tuple_of(value, 2) or not is_end(self.system, value[0]):
            return None
        return value if are_numbers(value[1:], 1 if value[0] < 0 else 3) else None


class HeldStates(CountStates):
    """The states of a fact: whether it is in all scenes of a row."""

    def __init__(self, system, fact):
        self.system = system
        self.holds_at = [1 if fact in scene else 0 for scene in system[0]]

    def start(self):
        return (EMPTY, 1)

    def after(self, state, at):
        end = end_after(self.system, state[0], at)
        return (end, 0 if end == NO_PATH else state[1] & self.holds_at[at])

    def understood(self, value):
        if not is_tuple_of(value, 2) or not is_end(self.system, value[0]) or not are_numbers(value[1:], 2):
            return None
        if value[0] == EMPTY and value[1] == 0 or value[0] == NO_PATH and value[1] == 1:
            return None
        return value


class RoomStates:
    """The states of `not`, `and` and `or`: an end, and the rooms of the parts within."""

    def __init__(self, system, word, machines):
        self.system = system
        self.word = word
        self.rows = [machine[1] for machine in machines]
        self.lets = [lets_of(machine) for machine in machines]

    def start(self):
        return (EMPTY,) + (0,) * len(self.rows)

    def after(self, state, at):
        rooms = [rows[room][at] for rows, room in zip(self.rows, state[1:])]
        return (end_after(self.system, state[0], at),) + tuple(rooms)

    def is_good(self, state):
        lets = [let_by[room] for let_by, room in zip(self.lets, state[1:])]
        if self.word == "not":
            return state[0] >= 0 and not lets[0]
        return state[0] >= 0 and (all(lets) if self.word == "and" else any(lets))

    def told(self, state):
        return state

    def understood(self, value):
        if not is_tuple_of(value, 1 + len(self.rows)) or not is_end(self.system, value[0]):
            return None
        for rows, room in zip(self.rows, value[1:]):
            if not are_numbers((room,), len(rows)):
                return None
        return value

    def set_in(self, state):
        return None


class WayStates:
    """The states of `some` and `all`: an end and a set.

    A set is kept as two integers: the bits of what stands in its pairs with 0,
    and of what stands in those with 1.
    """

    def __init__(self, system, word, way, machine):
        self.system = system
        self.word = word
        self.way = way
        self.paths = Paths(system, machine)
        self.let_by = sum([1 << room for room in machine[2]])
        self.wide = len(system[0]) if way in ("met", "earlier") else len(machine[1])

    def start(self):
        return (EMPTY, 0, 0)

    def of_one(self, at):
        """Return the bits of the pairs of a path of one state."""
        begun_by = BEGUN_BY.get(self.way, "")
        if begun_by == "room":
            return self.paths.alone[at]
        if begun_by == "entered":
            return self.paths.entered[at]
        return 1 << at if begun_by == "state" else 0

    def after(self, state, at):
        end, plain, marked_ones = state
        after = end_after(self.system, end, at)
        if after == NO_PATH:
            return (NO_PATH, 0, 0)
        if end == EMPTY:
            return (after, self.of_one(at), 0)
        if self.way in MARKING:
            marked_ones |= plain
        if self.way != "met" and self.way != "earlier":
            plain = self.paths.step(plain, at)
        if self.way in GAINING:
            plain |= self.paths.alone[at]
        return (after, plain, marked_ones)

    def rooms(self, state):
        """Return the bits of the rooms of the paths to which the way leads."""
        end, plain, marked_ones = state
        if self.way in MARKING:
            return marked_ones
        if self.way == "ends" or self.way == "ended":
            return plain
        if self.way == "meets":
            return self.paths.beginning[end]
        if self.way == "later":
            return self.paths.from_later(end)
        if self.way == "met":
            return any_rooms([rooms for at, rooms in enumerate(self.paths.ending) if plain >> at & 1])
        if self.way == "earlier":
            ends = [at for at in range(self.wide) if plain >> at & 1]
            return any_rooms([self.paths.to_earlier(at) for at in ends])
        return self.paths.further(end, plain)

    def is_good(self, state):
        if state[0] < 0:
            return False
        rooms = self.rooms(state)
        if self.word == "some":
            return rooms & self.let_by != 0
        return rooms & ~self.let_by == 0

    def told(self, state):
        pairs = []
        for at in range(self.wide):
            for mark in range(2):
                if state[1 + mark] >> at & 1:
                    pairs.append((at, mark))
        return (state[0], tuple(pairs))

    def is_told_pair(self, value):
        """Return True if a value may be a pair of a set."""
        if self.way in BARE or not is_pair(value) or not 0 <= value[0] < self.wide:
            return False
        return value[1] == 0 or value[1] == 1 and self.way in MARKING

    def understood(self, value):
        if not is_tuple_of(value, 2) or not is_end(self.system, value[0]) or not isinstance(value[1], tuple):
            return None
        if value[0] < 0 and value[1] != ():
            return None
        bits = [0, 0]
        least = (-1, -1)
        for pair in value[1]:
            if not self.is_told_pair(pair) or pair <= least:
                return None
            bits[pair[1]] |= 1 << pair[0]
            least = pair
        return (value[0], bits[0], bits[1])

    def set_in(self, state):
        # All states of the document count here, not just their sets.
        return state


class PathStates:
    """Tells the states of the parts of a saying for a system."""

    def __init__(self, system):
        self.system = system

    def states_of(self, part, machines):
        """Return the states of a part, with the machines of the parts directly within it."""
        word = part[0]
        if word == "point":
            return LengthStates(self.system)
        if word == "fact":
            return HeldStates(self.system, part[1])
        if word == "some" or word == "all":
            return WayStates(self.system, word, part[1], machines[0])
        return RoomStates(self.system, word, machines)
