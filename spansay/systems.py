"""Systems, their paths and tracks, and the machine of their runs."""

from spansay.errors import NotAllowed
from spansay.machines import MAX_ROOMS, are_rooms
from spansay.merging import merged
from spansay.scenes import is_scene, scenes_of

MAX_STATES = 8


def check_system(facts, system):
    """Raise NotAllowed if a triple is not a system over the facts."""
    scenes, firsts, moves = system
    if not 1 <= len(scenes) <= MAX_STATES:
        raise NotAllowed(f"a system has 1 to {MAX_STATES} states")
    if not all([is_scene(facts, scene) for scene in scenes]):
        raise NotAllowed("each state has a scene of the facts")
    if not firsts or not are_rooms(firsts, len(scenes)):
        raise NotAllowed("there is at least one first state, and first states ascend")
    if len(moves) != len(scenes) or not all([are_rooms(row, len(scenes)) for row in moves]):
        raise NotAllowed("there is a row of states for each state, and they ascend")


def is_path(system, row):
    """Return True if a row is a path."""
    moves = system[2]
    if not row or not all([0 <= state < len(moves) for state in row]):
        return False
    return all([after in moves[state] for state, after in zip(row, row[1:])])


def is_track(system, row):
    """Return True if a row is a track."""
    return is_path(system, row) and row[0] in system[1]


def run_of(system, row):
    """Return the run of a path."""
    if not is_path(system, row):
        raise NotAllowed("the row is no path of the system")
    return tuple([system[0][state] for state in row])


def states_with(system, states, scene):
    """Return the tuple of those of some states that have a scene."""
    return tuple([state for state in states if system[0][state] == scene])


def states_behind(system, states):
    """Return the ascending list of the states to which moves lead from some states."""
    return sorted(set([after for state in states for after in system[2][state]]))


def machine_of_runs(facts, system):
    """Return the machine of the runs of a system."""
    scenes = tuple(scenes_of(facts))
    # Behind a row there are the states in which tracks with this run end; None is the empty row.
    ends = [None]
    numbers = {None: 0}
    moves = []
    while len(moves) < len(ends):
        end = ends[len(moves)]
        coming = system[1] if end is None else states_behind(system, end)
        row = []
        for scene in scenes:
            after = states_with(system, coming, scene)
            if after not in numbers:
                numbers[after] = len(ends)
                ends.append(after)
            row.append(numbers[after])
        moves.append(row)
    machine, _ = merged(scenes, moves, [end is not None and end != () for end in ends], MAX_ROOMS)
    return machine
