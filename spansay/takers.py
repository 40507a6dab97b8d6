"""The takers of sayings: machines over the marks, worked out part by part."""

from spansay.blocks import marks_of
from spansay.errors import TooLarge
from spansay.machines import MAX_ROOMS, MAX_SETS
from spansay.merging import merged
from spansay.sayings import parts_and_places
from spansay.sayingtexts import saying_text
from spansay.states import MarkStates


class Worked:
    """A part that is worked out: its kind of states, the states and their rooms, its machine."""

    def __init__(self, kind, states, rooms, machine):
        self.kind = kind
        self.states = states
        self.rooms = rooms
        self.machine = machine


def explored(kind, many):
    """Return the list of the states of all rows of so many letters, and the moves between them."""
    states = [kind.start()]
    numbers = {states[0]: 0}
    moves = []
    sets = {}
    while len(moves) < len(states):
        state = states[len(moves)]
        sets[kind.set_in(state)] = True
        if len(sets) > MAX_SETS:
            raise TooLarge(f"there are more than {MAX_SETS} sets or states")
        row = []
        for at in range(many):
            after = kind.after(state, at)
            if after not in numbers:
                numbers[after] = len(states)
                states.append(after)
            row.append(numbers[after])
        moves.append(row)
    return states, moves


def worked_part(letters, kind):
    """Work out one part by its kind of states."""
    states, moves = explored(kind, len(letters))
    lets = [kind.is_good(state) for state in states]
    machine, rooms = merged(letters, moves, lets, MAX_ROOMS)
    return Worked(kind, states, rooms, machine)


def worked_parts(letters, saying, kinds):
    """Return the list of all parts of a saying, in order, worked out by their kinds of states."""
    known = {}
    worked = []
    for part, places in parts_and_places(saying):
        text = saying_text(part)
        if text not in known:
            machines = [worked[place].machine for place in places]
            known[text] = worked_part(letters, kinds.states_of(part, machines))
        worked.append(known[text])
    return worked


def worked_out(facts, saying):
    """Return the list of all parts of a saying, in order, with their takers."""
    return worked_parts(marks_of(facts), saying, MarkStates(facts))


def taker_of(facts, saying):
    """Return the taker of a saying."""
    return worked_out(facts, saying)[-1].machine
