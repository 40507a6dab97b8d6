"""The machines of sayings: which runs keep them, and which of these come first."""

from spansay.errors import NotAllowed
from spansay.machines import MAX_LENGTH, MAX_ROOMS, count_rows, first_apart, first_row, lets_of
from spansay.merging import merged
from spansay.scenes import scenes_of
from spansay.takers import taker_of


def machine_of(facts, saying):
    """Return the machine of a saying."""
    taker = taker_of(facts, saying)
    scenes = tuple(scenes_of(facts))
    # All places of a run stand in the stretch of all places: only those marks are read.
    moves = [[row[3 * scene + 1] for scene in range(len(scenes))] for row in taker[1]]
    machine, _ = merged(scenes, moves, lets_of(taker), MAX_ROOMS)
    return machine


def first_kept(facts, saying):
    """Return the first run that keeps a saying, None if there is none."""
    return first_row(machine_of(facts, saying))


def first_parting(facts, first, second):
    """Return the first run that keeps just one of two sayings, None if there is none."""
    one = machine_of(facts, first)
    return first_apart(one, machine_of(facts, second))


def are_alike(facts, first, second):
    """Return True if the same runs keep two sayings."""
    one = machine_of(facts, first)
    return one == machine_of(facts, second)


def count_kept(facts, saying, many):
    """Return the number of the runs of so many places that keep a saying."""
    if not 1 <= many <= MAX_LENGTH:
        raise NotAllowed(f"runs that are counted have 1 to {MAX_LENGTH} places")
    return count_rows(machine_of(facts, saying), many)
