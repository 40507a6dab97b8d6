"""What a store is at one time: its system, its kept sayings, and the number that comes next."""

from spansay.errors import Broken
from spansay.machines import lets_of
from spansay.systems import run_of
from spansay.walks import first_track, steps_of, walked


class Kept:
    """A kept saying, with its number and its machine."""

    def __init__(self, number, saying, machine):
        self.number = number
        self.saying = saying
        self.machine = machine


class Snapshot:
    """What a store is at one time. It is never modified."""

    def __init__(self, system, rows, coming):
        self.system = system
        self.rows = rows
        self.coming = coming


def check_kept(snapshot):
    """Raise Broken for the first kept saying that not all runs of the system keep."""
    system = snapshot.system
    for kept in snapshot.rows:
        breaks = [not is_let for is_let in lets_of(kept.machine)]
        track = first_track(walked(system, steps_of(system, kept.machine)), breaks)
        if track is not None:
            raise Broken(kept.number, run_of(system, track))


def with_place(rows, place, row):
    """Return rows with another one at a place."""
    return rows[:place] + (row,) + rows[place + 1:]


def with_state(states, state, is_there):
    """Return the ascending tuple of some states with one of them there, or not there."""
    rest = [other for other in states if other != state]
    return tuple(sorted(rest + [state])) if is_there else tuple(rest)


def without_state(states, gone):
    """Return some states without one that is dropped, with the numbers that they have then."""
    return tuple([state - 1 if state > gone else state for state in states if state != gone])


def system_without(system, gone):
    """Return a system without one of its states."""
    scenes, firsts, moves = system
    left = [row for state, row in enumerate(moves) if state != gone]
    scenes_left = scenes[:gone] + scenes[gone + 1:]
    return (scenes_left, without_state(firsts, gone), tuple([without_state(row, gone) for row in left]))
