"""The two readings of tracks: as runs, and as paths of the system."""

from spansay.errors import NotAllowed
from spansay.least import machine_of
from spansay.machines import MAX_LENGTH, lets_of
from spansay.merging import paired
from spansay.tracks import reader_of
from spansay.walks import count_walks, first_track, steps_of, walked


def first_parted(facts, system, saying):
    """Return the first track on which the two readings part a saying, None if there is none."""
    machine = machine_of(facts, saying)
    reader = reader_of(system, saying)
    pairs, steps = paired(steps_of(system, machine), reader[1])
    runs = lets_of(machine)
    paths = lets_of(reader)
    return first_track(walked(system, steps), [runs[room] != paths[other] for room, other in pairs])


def first_told(system, saying, holds):
    """Return the first track of which a saying holds as a path (holds is True), or does not, or None."""
    reader = reader_of(system, saying)
    wanted = [is_let == holds for is_let in lets_of(reader)]
    return first_track(walked(system, reader[1]), wanted)


def count_told(system, saying, many):
    """Return the number of the tracks of so many states of which a saying holds as paths."""
    if not 1 <= many <= MAX_LENGTH:
        raise NotAllowed(f"tracks that are counted have 1 to {MAX_LENGTH} states")
    reader = reader_of(system, saying)
    return count_walks(system, reader[1], many, lets_of(reader))
