"""Builders' machines: which of them win, and why others do not."""

from spansay.errors import BadPaper, Missing, NotAllowed, TooLarge
from spansay.glances import Glances
from spansay.knowledge import check_aim, judged_plan
from spansay.overscenes import check_over_scenes
from spansay.pairplays import Played, chooser_of, is_wrong, wrong_run
from spansay.positions import FIRST, OVER, Positions
from spansay.scenes import scenes_of
from spansay.sights import check_sight
from spansay.systems import MAX_STATES

MAX_BUILDER = 601


def check_row(glances, row, many):
    """Raise NotAllowed if a pair is not a row of a builder's machine of so many rooms."""
    choices, moves = row
    if len(choices) != glances.many_choices() or not all([choice in glances.choices for choice in choices]):
        raise NotAllowed("a row has just the choices that are due")
    if len(moves) != len(glances.glimpses) or not all([0 <= room < many for room in moves]):
        raise NotAllowed("a row has a room for each glimpse")


def check_builder(facts, sight, builder):
    """Raise NotAllowed if a tuple of pairs is not a builder's machine for a sight."""
    check_sight(facts, sight)
    if not 1 <= len(builder) <= MAX_BUILDER:
        raise NotAllowed(f"a builder's machine has 1 to {MAX_BUILDER} rows")
    glances = Glances(facts, sight)
    for row in builder:
        check_row(glances, row, len(builder))


def chooser_for(facts, sight, machine, builder):
    """Return the chooser of a builder's machine, for plays with a machine over the scenes."""
    check_builder(facts, sight, builder)
    check_over_scenes(facts, machine)
    return chooser_of(Glances(facts, sight), builder)


def pairs_played(facts, sight, machine, builder):
    """Return the ascending tuple of all pairs to which plays come behind some place."""
    played = Played(chooser_for(facts, sight, machine, builder), machine)
    come_to = {coming: True for row in played.after for _, coming in row}
    return tuple(sorted([played.pairs[number] for number in come_to]))


def wrong_of(facts, sight, machine, builder):
    """Return None if a builder's machine wins, otherwise a wrong run."""
    chooser = chooser_for(facts, sight, machine, builder)
    found = wrong_run(Played(chooser, machine), sight[3])
    return None if found is None else told_wrong(chooser.glances, found)


def told_wrong(glances, found):
    """Return the stem and the cycle of a wrong run, with the choices themselves."""
    stem, cycle = found
    return (tuple([glances.others[other] for other in stem]), tuple([glances.others[other] for other in cycle]))


def is_wrong_told(chooser, machine, goal, stem, cycle):
    """Return True if two tuples of tuples of texts are a wrong run."""
    others = chooser.glances.others
    if not all([choice in others for choice in stem + cycle]):
        return False
    stem_told = [others.index(choice) for choice in stem]
    cycle_told = [others.index(choice) for choice in cycle]
    return is_wrong(chooser, machine, goal, stem_told, cycle_told)


def judge_wrong(facts, sight, machine, builder, stem, cycle):
    """Raise BadPaper if two rows of choices of the breaker are not a wrong run."""
    chooser = chooser_for(facts, sight, machine, builder)
    if not is_wrong_told(chooser, machine, sight[3], stem, cycle):
        raise BadPaper("this is no wrong run")


def builder_of(facts, sight, machine, paper):
    """Return the builder's machine of a paper of the builder."""
    check_sight(facts, sight)
    check_over_scenes(facts, machine)
    check_aim(sight)
    chosen = judged_plan(facts, sight, machine, "builder", paper)
    glances = Glances(facts, sight)
    positions = Positions(glances, machine, sight[3])
    # Where all is done, any choice will do: the first one is made.
    chosen[OVER] = (glances.choices[0],) * glances.many_choices()
    met = [FIRST]
    numbers = {FIRST: 0}
    rows = []
    while len(rows) < len(met):
        position = met[len(rows)]
        moves = []
        for glimpse in range(len(glances.glimpses)):
            coming = OVER
            if position != OVER:
                choice = chosen[position][glances.place_of_choice(glimpse)]
                coming = positions.behind(position, glances.choices.index(choice), glimpse)
            if coming not in numbers:
                numbers[coming] = len(met)
                met.append(coming)
            moves.append(numbers[coming])
        rows.append((chosen[position], tuple(moves)))
    return tuple(rows)


def states_behind(chooser, room):
    """Return the list of the states to which the breaker's choices lead from a room, in order, each once."""
    found = []
    for other in range(len(chooser.glances.others)):
        state = (chooser.room_behind(room, other), chooser.scene(room, other))
        if state not in found:
            found.append(state)
    return found


def system_of(facts, sight, builder):
    """Return the system of a builder's machine."""
    check_builder(facts, sight, builder)
    chooser = chooser_of(Glances(facts, sight), builder)
    met = states_behind(chooser, 0)
    firsts = tuple(range(len(met)))
    moves = []
    while len(moves) < len(met):
        coming = states_behind(chooser, met[len(moves)][0])
        for state in coming:
            if state not in met:
                met.append(state)
        moves.append(tuple(sorted([met.index(state) for state in coming])))
        if len(met) > MAX_STATES:
            raise TooLarge(f"the system has more than {MAX_STATES} states")
    scenes = scenes_of(facts)
    return (tuple([scenes[scene] for _, scene in met]), firsts, tuple(moves))


class Run:
    """A play in which a builder's machine chooses."""

    def __init__(self, facts, sight, builder):
        check_builder(facts, sight, builder)
        glances = Glances(facts, sight)
        self._glances = glances
        self._chooser = chooser_of(glances, builder)
        self._scenes = scenes_of(facts)
        self._made = []
        self._rooms = [0]

    def now(self):
        """Return the builder's choice for the next place if the builder is first, otherwise None."""
        if not self._glances.is_first:
            return None
        return self._glances.choices[self._chooser.rows[self._rooms[-1]][0][0]]

    def take(self, choice):
        """Take the breaker's choice for the next place, and return the scene of the place."""
        if choice not in self._glances.others:
            raise NotAllowed("this is no choice of the breaker")
        other = self._glances.others.index(choice)
        room = self._rooms[-1]
        scene = self._scenes[self._chooser.scene(room, other)]
        self._made.append(scene)
        self._rooms.append(self._chooser.room_behind(room, other))
        return scene

    def run(self):
        """Return the tuple of the scenes so far."""
        return tuple(self._made)

    def room(self):
        """Return the room of the builder's machine."""
        return self._rooms[-1]

    def back(self):
        """Take the last scene back."""
        if not self._made:
            raise Missing("there is no scene to take back")
        self._made.pop()
        self._rooms.pop()
