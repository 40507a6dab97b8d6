"""The draws of a gamble, with the rooms to which a machine leads behind them."""

from math import lcm

from spansay.errors import TooLarge
from spansay.gambles import system_of
from spansay.walks import steps_of, walked


class Draws:
    """The pairs that are met, ascending, and the lots behind them.

    Pairs are told by their numbers. `options` has for each pair a list of lots,
    and a lot is a list of pairs of a number and a ratio.
    """

    def __init__(self, gamble, machine, most):
        system = system_of(gamble)
        steps = steps_of(system, machine)
        self.pairs = sorted(walked(system, steps))
        if len(self.pairs) > most:
            raise TooLarge(f"more than {most} pairs are met")
        numbers = {pair: number for number, pair in enumerate(self.pairs)}
        self.starts = [(numbers[(state, steps[0][state])], part) for state, part in gamble[1]]
        self.options = []
        for state, room in self.pairs:
            row = steps[room]
            lots = [[(numbers[(after, row[after])], part) for after, part in lot] for lot in gamble[2][state]]
            self.options.append(lots)

    def common_part(self):
        """Return the least number of which all denominators of ratios are factors."""
        common = 1
        for lots in self.options + [[self.starts]]:
            for lot in lots:
                for _, part in lot:
                    common = lcm(common, part[1])
        return common
