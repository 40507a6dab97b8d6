"""Whether all runs of a system keep a saying, or some run does, with papers that show it."""

from spansay.errors import BadPaper, NotAllowed
from spansay.least import machine_of
from spansay.machines import MAX_LENGTH, lets_by, lets_of, told_row
from spansay.merging import first_row_to, paired
from spansay.overscenes import check_over_scenes
from spansay.systems import is_track, machine_of_runs, run_of
from spansay.walks import count_walks, first_pairs, first_track, pairs_behind, steps_of, walked


def pairs_of(system, machine):
    """Return the ascending tuple of all pairs to which tracks lead."""
    return tuple(sorted(walked(system, steps_of(system, machine))))


def all_keep(facts, system, saying):
    """Return ("all", machine, pairs) if all runs keep a saying, otherwise ("not", machine, track)."""
    machine = machine_of(facts, saying)
    came = walked(system, steps_of(system, machine))
    track = first_track(came, [not is_let for is_let in lets_of(machine)])
    if track is None:
        return ("all", machine, tuple(sorted(came)))
    return ("not", machine, track)


def some_keeps(facts, system, saying):
    """Return ("some", machine, track) if some run keeps a saying, otherwise ("none", machine, pairs)."""
    machine = machine_of(facts, saying)
    came = walked(system, steps_of(system, machine))
    track = first_track(came, lets_of(machine))
    if track is None:
        return ("none", machine, tuple(sorted(came)))
    return ("some", machine, track)


def judge_pairs(facts, system, machine, pairs, is_let):
    """Raise BadPaper if pairs do not show that a machine lets all runs by (is_let is True), or none."""
    check_over_scenes(facts, machine)
    steps = steps_of(system, machine)
    lets = lets_of(machine)
    there = {pair: True for pair in pairs}
    for pair in first_pairs(system, steps):
        if pair not in there:
            raise BadPaper("the pair of a track of one state is not there")
    for state, room in there:
        if not 0 <= state < len(system[0]) or not 0 <= room < len(lets):
            raise BadPaper("there is no such state, or no such room")
        if lets[room] != is_let:
            raise BadPaper("a room lets by, or it does not")
        for after in pairs_behind(system, steps, (state, room)):
            if after not in there:
                raise BadPaper("a pair to which a move leads is not there")


def judge_track(facts, system, machine, track, is_let):
    """Raise BadPaper if a row is no track whose run a machine lets by (is_let is True), or does not."""
    check_over_scenes(facts, machine)
    if not is_track(system, track):
        raise BadPaper("the row is no track of the system")
    if lets_by(machine, run_of(system, track)) != is_let:
        raise BadPaper("the run of the track shows something else")


def count_tracks(facts, system, machine, many):
    """Return the number of the tracks of so many states whose run a machine lets by."""
    check_over_scenes(facts, machine)
    if not 1 <= many <= MAX_LENGTH:
        raise NotAllowed(f"tracks that are counted have 1 to {MAX_LENGTH} states")
    return count_walks(system, steps_of(system, machine), many, lets_of(machine))


def first_own_run(facts, first, second):
    """Return the first run that the first one of two systems has and the second one has not, or None."""
    one = machine_of_runs(facts, first)
    other = machine_of_runs(facts, second)
    rooms, moves = paired(one[1], other[1])
    ones = lets_of(one)
    others = lets_of(other)
    lets = [ones[room] and not others[after] for room, after in rooms]
    return told_row(one[0], first_row_to(moves, lets))
