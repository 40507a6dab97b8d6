"""Greatest and least chances that the draws of a gamble ever lead to goals.

Pairs are told by their numbers, as in draws.py; values are a list with a ratio for each pair.
"""

from math import lcm

from spansay.equations import solved
from spansay.gambles import ALL, NOTHING
from spansay.ratios import compare, plus, times


def mean_behind(lot, values):
    """Return the mean of the values behind a lot."""
    mean = NOTHING
    for number, part in lot:
        mean = plus(mean, times(part, values[number]))
    return mean


def is_nearer(lot, ranks):
    """Return True if a pair with a rank is behind a lot."""
    return any([ranks[after] is not None for after, _ in lot])


class Outlook:
    """What the best plan gives: for each pair its value, its choice and its rank.

    Ranks are None for pairs of the value 0.
    """

    def __init__(self, draws, is_goal, is_greatest):
        self.options = draws.options
        self.is_goal = is_goal
        self.is_greatest = is_greatest
        every = [list(range(len(lots))) for lots in self.options]
        # Pairs that get no rank here have the value 0: goals are not come to from them, or can be avoided.
        self.ranks = self.ranks_by(every)
        # By these choices all others come to a goal or to the value 0 at some time, and so by all later ones.
        self.choices = self.choices_by(every)
        self.worths = self.worths_by_choices()
        while self.choose_better():
            self.worths = self.worths_by_choices()
        best = self.best_options()
        if is_greatest:
            self.ranks = self.ranks_by(best)
        self.choices = self.choices_by(best)

    def ranked_now(self, ranks, allowed):
        """Return the list of the pairs without a rank that get the next one, by the options that are allowed."""
        found = []
        for number, choices in enumerate(allowed):
            if ranks[number] is None:
                nearer = [is_nearer(self.options[number][choice], ranks) for choice in choices]
                if any(nearer) if self.is_greatest else all(nearer):
                    found.append(number)
        return found

    def ranks_by(self, allowed):
        """Return the list of the ranks, by the options that are allowed."""
        ranks = [0 if goal else None for goal in self.is_goal]
        rank = 1
        coming = self.ranked_now(ranks, allowed)
        while coming:
            for number in coming:
                ranks[number] = rank
            rank += 1
            coming = self.ranked_now(ranks, allowed)
        return ranks

    def choices_by(self, allowed):
        """Return the list of the choices, by the options that are allowed and the ranks."""
        chosen = []
        for number, choices in enumerate(allowed):
            rank = self.ranks[number]
            if self.is_goal[number]:
                chosen.append(0)
            elif rank is None or not self.is_greatest:
                chosen.append(choices[0])
            else:
                chosen.append([choice for choice in choices if self.leads_to_rank(number, choice, rank - 1)][0])
        return chosen

    def leads_to_rank(self, number, choice, rank):
        """Return True if a pair of a rank is behind an option of a pair."""
        return any([self.ranks[after] == rank for after, _ in self.options[number][choice]])

    def is_unknown(self, number):
        """Return True if the value of a pair hangs on the choices."""
        return self.ranks[number] is not None and not self.is_goal[number]

    def worths_by_choices(self):
        """Return the values that the choices give."""
        unknown = [number for number in range(len(self.ranks)) if self.is_unknown(number)]
        places = {number: place for place, number in enumerate(unknown)}
        rows = []
        for place, number in enumerate(unknown):
            lot = self.options[number][self.choices[number]]
            common = 1
            for _, part in lot:
                common = lcm(common, part[1])
            row = [0] * (len(unknown) + 1)
            row[place] = common
            for after, part in lot:
                weight = part[0] * (common // part[1])
                if self.is_goal[after]:
                    row[-1] += weight
                elif after in places:
                    row[places[after]] -= weight
            rows.append(row)
        values = [ALL if goal else NOTHING for goal in self.is_goal]
        for number, value in zip(unknown, solved(rows)):
            values[number] = value
        return values

    def choose_better(self):
        """Choose what is better than the choices by their own values, and return True if there is such."""
        wanted = 1 if self.is_greatest else -1
        is_better = False
        for number, lots in enumerate(self.options):
            if self.is_unknown(number):
                best = self.worths[number]
                for choice, lot in enumerate(lots):
                    mean = mean_behind(lot, self.worths)
                    if compare(mean, best) == wanted:
                        best = mean
                        self.choices[number] = choice
                        is_better = True
        return is_better

    def best_options(self):
        """Return the list that has for each pair the list of the options with the mean of its value."""
        best = []
        for number, lots in enumerate(self.options):
            value = self.worths[number]
            best.append([choice for choice, lot in enumerate(lots) if mean_behind(lot, self.worths) == value])
        return best
