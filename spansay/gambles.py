"""Gambles: systems in which the next state is drawn by an option that is chosen."""

from spansay.errors import NotAllowed
from spansay.ratios import compare, is_ratio, plus
from spansay.scenes import is_scene
from spansay.systems import MAX_STATES

MAX_PART = 1000
MAX_OPTIONS = 4
NOTHING = (0, 1)
ALL = (1, 1)


def check_part(value):
    """Raise NotAllowed if a pair of integers is no ratio above 0 with a denominator that is allowed."""
    if not is_ratio(value) or value[0] <= 0 or value[1] > MAX_PART:
        raise NotAllowed(f"parts of a lot are ratios above 0, with denominators of at most {MAX_PART}")


def check_lot(lot, many):
    """Raise NotAllowed if a tuple of pairs is not a lot over so many states."""
    least = 0
    total = NOTHING
    for state, part in lot:
        if not least <= state < many:
            raise NotAllowed("the states of a lot are states of the gamble, ascending")
        least = state + 1
        check_part(part)
        total = plus(total, part)
    if compare(total, ALL) != 0:
        raise NotAllowed("the parts of a lot add up to 1")


def check_gamble(facts, gamble):
    """Raise NotAllowed if a triple is not a gamble over the facts."""
    scenes, starts, options = gamble
    if not 1 <= len(scenes) <= MAX_STATES:
        raise NotAllowed(f"a gamble has 1 to {MAX_STATES} states")
    if not all([is_scene(facts, scene) for scene in scenes]):
        raise NotAllowed("each state has a scene of the facts")
    check_lot(starts, len(scenes))
    if len(options) != len(scenes):
        raise NotAllowed("there is a row of options for each state")
    for lots in options:
        if not 1 <= len(lots) <= MAX_OPTIONS:
            raise NotAllowed(f"a state has 1 to {MAX_OPTIONS} options")
        for lot in lots:
            check_lot(lot, len(scenes))


def is_plain(gamble):
    """Return True if each state of a gamble has just one option."""
    return all([len(lots) == 1 for lots in gamble[2]])


def system_of(gamble):
    """Return the system of a gamble, whose moves lead to all states that may be drawn."""
    scenes, starts, options = gamble
    moves = [tuple(sorted(set([state for lot in lots for state, _ in lot]))) for lots in options]
    return (scenes, tuple([state for state, _ in starts]), tuple(moves))
