"""Chances that the run of so many places of a gamble is let by a machine."""

from spansay.draws import Draws
from spansay.errors import NotAllowed
from spansay.machines import MAX_LENGTH, lets_of
from spansay.overscenes import check_over_scenes
from spansay.ratios import lowest

MAX_PAIRS = 60


def draws_of(facts, gamble, machine):
    """Return the draws of a gamble with a machine over the scenes."""
    check_over_scenes(facts, machine)
    return Draws(gamble, machine, MAX_PAIRS)


def pairs_met(facts, gamble, machine):
    """Return the ascending tuple of the pairs that are met."""
    return tuple(draws_of(facts, gamble, machine).pairs)


def mean_of(lot, values, common):
    """Return the mean of some integers behind a lot, times the common denominator."""
    return sum([part[0] * (common // part[1]) * values[number] for number, part in lot])


def chance_at(facts, gamble, machine, many, is_greatest):
    """Return the greatest chance at so many places, or the least one."""
    if not 1 <= many <= MAX_LENGTH:
        raise NotAllowed(f"runs whose chance is told have 1 to {MAX_LENGTH} places")
    draws = draws_of(facts, gamble, machine)
    lets = lets_of(machine)
    common = draws.common_part()
    # All values have one denominator, which grows from draw to draw: so they are integers here.
    values = [1 if lets[room] else 0 for _, room in draws.pairs]
    below = common
    for _ in range(many - 1):
        coming = []
        for lots in draws.options:
            means = [mean_of(lot, values, common) for lot in lots]
            coming.append(max(means) if is_greatest else min(means))
        values = coming
        below *= common
    return lowest(mean_of(draws.starts, values, common), below)


def greatest_at(facts, gamble, machine, many):
    """Return the greatest chance that the machine lets the run of so many places by."""
    return chance_at(facts, gamble, machine, many, True)


def least_at(facts, gamble, machine, many):
    """Return the least chance that the machine lets the run of so many places by."""
    return chance_at(facts, gamble, machine, many, False)
