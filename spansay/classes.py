"""Machines of types, and the classes of runs that no saying of a depth tells apart."""

from spansay.blocks import marks_of
from spansay.machines import room_behind
from spansay.merging import first_rooms, refined, rooms_in_order
from spansay.scenes import scenes_of
from spansay.states import Sets
from spansay.takers import explored

OTHER_KIND = -1


class FirstStates:
    """The states of rows of marks that tell the types of depth 0.

    A state is a pair of the zone of the last mark, and of the sign of the type:
    the facts that hold of the stretch, and whether it has one place. It is -1
    behind rows that neither are nor begin a marked run.
    """

    def __init__(self, marks):
        self.marks = marks

    def start(self):
        return (0, None)

    def set_in(self, state):
        return None

    def after(self, state, at):
        scene, zone = self.marks[at]
        if state == -1 or zone < state[0] or zone == 2 and state[1] is None:
            return -1
        if zone != 1:
            return (zone, state[1])
        if state[1] is None:
            return (1, (scene, True))
        return (1, (tuple([fact for fact in state[1][0] if fact in scene]), False))

    def sign(self, state):
        """Return what tells the type, None behind a row that is no marked run."""
        return None if state == -1 else state[1]


class NextStates:
    """The states of rows of marks that tell the types of the depth behind that of a machine."""

    def __init__(self, zero, machine, ways):
        self.zero = zero
        self.kinds = machine[2]
        self.sets = [Sets(way, (machine[0], machine[1], ())) for way in ways]

    def start(self):
        return (0,) + tuple([kept.start() for kept in self.sets])

    def set_in(self, state):
        # All states of the document count here, not just their sets.
        return state

    def after(self, state, at):
        row = [self.zero[1][state[0]][at]]
        for kept, masks in zip(self.sets, state[1:]):
            row.append(kept.after(masks, at))
        return tuple(row)

    def kinds_in(self, rooms):
        """Return the bits of the kinds of the rooms, which are told by bits, too."""
        kinds = 0
        for room, kind in enumerate(self.kinds):
            if rooms >> room & 1 and kind != OTHER_KIND:
                kinds |= 1 << kind
        return kinds

    def sign(self, state):
        """Return what tells the type, None behind a row that is no marked run."""
        kind = self.zero[2][state[0]]
        if kind == OTHER_KIND:
            return None
        row = [kind]
        for kept, masks in zip(self.sets, state[1:]):
            row.append(self.kinds_in(kept.ended(masks)))
        return tuple(row)


def least_by_signs(letters, moves, signs):
    """Return the least machine that tells the signs of rooms, as kinds, apart."""
    order = rooms_in_order(moves)
    numbers = {None: OTHER_KIND}
    told = {}
    for room in order:
        told[room] = numbers.setdefault(signs[room], len(numbers) - 1)
    rooms = refined(moves, told, len(moves))
    firsts = first_rooms(order, rooms)
    rows = [tuple([rooms[after] for after in moves[room]]) for room in firsts]
    return (letters, tuple(rows), tuple([told[room] for room in firsts]))


def machine_by_states(marks, kind):
    """Return the machine of types that a kind of states tells."""
    states, moves = explored(kind, len(marks))
    return least_by_signs(marks, moves, [kind.sign(state) for state in states])


def types_machine(facts, ways, depth):
    """Return the machine of types."""
    marks = marks_of(facts)
    zero = machine_by_states(marks, FirstStates(marks))
    machine = zero
    for _ in range(depth):
        coming = machine_by_states(marks, NextStates(zero, machine, ways))
        # If a depth tells nothing more than the one ahead of it, no greater one does.
        if coming == machine:
            return machine
        machine = coming
    return machine


def kind_behind(machine, row):
    """Return the kind of the room to which a row of marks leads in a machine of types."""
    return machine[2][room_behind(machine, row)]


def first_runs_by_kind(facts, machine):
    """Return the dict of the first run of each kind that runs have as a whole, in their order."""
    scenes = scenes_of(facts)
    met = {0: ()}
    order = [0]
    firsts = {}
    at = 0
    while at < len(order):
        room = order[at]
        at += 1
        if machine[2][room] != OTHER_KIND:
            firsts.setdefault(machine[2][room], met[room])
        for number, scene in enumerate(scenes):
            after = machine[1][room][3 * number + 1]
            if after not in met:
                met[after] = met[room] + (scene,)
                order.append(after)
    return firsts


def class_runs(facts, ways, depth):
    """Return the list of the first runs of all classes, in order."""
    return list(first_runs_by_kind(facts, types_machine(facts, ways, depth)).values())


def class_of(facts, ways, depth, run):
    """Return the number of the class of a run."""
    machine = types_machine(facts, ways, depth)
    kind = kind_behind(machine, tuple([(scene, 1) for scene in run]))
    return list(first_runs_by_kind(facts, machine)).index(kind)
