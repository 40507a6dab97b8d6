"""Solving backward problems by lines of a future chain, if no row of letters leads around.

Runs are cut at the places of some letters, the cutting ones, that all lead into
few states, the landing ones. Between two such places stand rows of fewer
letters. What they do to the landing states is told by a label of the place
ahead of them: this is a problem with fewer letters. With these labels as
letters, the cut places alone are a problem with fewer states; it tells to which
landing state each cut place leads. So the places of the cutting letters become
stops, and a problem with fewer letters is left.
"""

from spansay.quotients import Backward, partitions_of


class Labels:
    """What the letters between two cut places do, and what they do behind the last one.

    A label is `(True, states)`, with a state for each landing state, if a cut
    place comes ahead of the next stop; otherwise it is `(False, states)`, with
    one state alone, to which they lead from the stop or from the end of the run.
    """

    def __init__(self, problem, landing, rest):
        self.labels = []
        self.numbers = {}
        self.stops = [(line, self.number((False, (state,)))) for line, state in problem.stops]
        self.end = self.number((False, (problem.end,)))
        self.start = self.number((True, landing))
        self.rest = rest
        at = 0
        while at < len(self.labels):
            for _, states in rest:
                self.number(behind(self.labels[at], states))
            at += 1

    def number(self, label):
        """Return the number of a label."""
        if label not in self.numbers:
            self.numbers[label] = len(self.labels)
            self.labels.append(label)
        return self.numbers[label]

    def problem(self, cut):
        """Return the problem that tells the label ahead of each place; `cut` holds at cut places."""
        letters = []
        for line, states in self.rest:
            row = [self.numbers[behind(label, states)] for label in self.labels]
            letters.append((line, tuple(row)))
        return Backward(len(self.labels), letters, self.stops + [(cut, self.start)], self.end)

    def signs(self, cutting):
        """Return the list that has for each label what it is behind each of the cutting letters."""
        return [tuple([behind(label, states) for _, states in cutting]) for label in self.labels]


def behind(label, states):
    """Return the label ahead of a letter that leads from states to these states."""
    return (label[0], tuple([states[state] for state in label[1]]))


def landing_of(letters):
    """Return the ascending tuple of the states to which some letters lead."""
    return tuple(sorted(set([state for _, states in letters for state in states])))


def parted_letters(letters, landing):
    """Return the list of the letters that lead into the landing states alone, and of the others."""
    cutting = [letter for letter in letters if all([state in landing for state in letter[1]])]
    return cutting, [letter for letter in letters if letter not in cutting]


def narrow_landings(problem):
    """Return the list of the landing states of each letter alone."""
    return [landing_of([letter]) for letter in problem.letters]


def wide_landings(problem):
    """Return the list of the landing states of all letters, for each state, that do not lead to it."""
    landings = []
    for state in range(problem.many):
        letters = [letter for letter in problem.letters if state not in letter[1]]
        if letters:
            landings.append(landing_of(letters))
    return landings


def cost_of(problem, landing):
    """Return what tells how much work is left behind a cut, for its landing states."""
    cutting, rest = parted_letters(problem.letters, landing)
    labels = Labels(Backward(problem.many, [], [], problem.end), landing, rest)
    signs = [sign for label, sign in zip(labels.labels, labels.signs(cutting)) if label[0]]
    # Found by trials: letters that are left count more than what their labels tell.
    return (3 * len(rest) + len(set(signs)), len(landing), landing)


class Solver:
    """Solves backward problems by lines; either way of cutting is the better one for some of them."""

    def __init__(self, lines, is_wide):
        self.lines = lines
        self.is_wide = is_wide

    def solved(self, problem, signs):
        """Return the dict of a line for each sign, which holds at a place if the state there has it.

        The state at a place is that behind the place: the letter there is not read.
        """
        problem = self.with_places(problem)
        numbers = problem.told_apart(signs)
        many = len(set(list(numbers.values())))
        told = self.by_states(problem.renumbered(numbers, many))
        rows = {}
        for state, number in numbers.items():
            rows.setdefault(signs[state], {})[number] = True
        return {sign: self.lines.any_of([told[number] for number in rows[sign]]) for sign in rows}

    def with_places(self, problem):
        """Return the problem without letters and stops that stand at no place."""
        letters = [letter for letter in problem.letters if letter[0] != self.lines.no]
        stops = [stop for stop in problem.stops if stop[0] != self.lines.no]
        return Backward(problem.many, letters, stops, problem.end)

    def by_states(self, problem):
        """Return the list of a line for each state."""
        if problem.many == 1:
            return [self.lines.yes]
        told = [self.lines.yes] * problem.many
        for blocks in partitions_of(problem.many, problem.maps()):
            names = {}
            numbers = {state: names.setdefault(block, len(names)) for state, block in enumerate(blocks)}
            lines = self.at_once(problem.renumbered(numbers, len(names)))
            told = [self.lines.and_of(line, lines[numbers[state]]) for state, line in enumerate(told)]
        return told

    def at_once(self, problem):
        """Return the same: letters that all lead to one state are stops, and those that do nothing are left out."""
        letters = {}
        stops = {}
        for line, state in problem.stops:
            stops[state] = self.lines.or_of(stops.get(state, self.lines.no), line)
        for line, states in problem.letters:
            if len(set(states)) == 1:
                stops[states[0]] = self.lines.or_of(stops.get(states[0], self.lines.no), line)
            elif states != tuple(range(problem.many)):
                letters[states] = self.lines.or_of(letters.get(states, self.lines.no), line)
        left = [(letters[states], states) for states in letters]
        stopped = [(stops[state], state) for state in sorted(stops)]
        simple = Backward(problem.many, left, stopped, problem.end)
        return self.by_cut(simple) if left else self.by_stops(simple)

    def by_stops(self, problem):
        """Return the same if there are no letters: the next stop tells all."""
        no_stop = self.lines.not_of(self.lines.any_of([line for line, _ in problem.stops]))
        told = [self.lines.no] * problem.many
        for line, state in problem.stops:
            if state != problem.end:
                told[state] = self.lines.until_of(no_stop, line)
        told[problem.end] = self.lines.not_of(self.lines.any_of(told))
        return told

    def by_cut(self, problem):
        """Return the same, by cutting at some of the letters."""
        landings = wide_landings(problem) if self.is_wide else narrow_landings(problem)
        landing = min([cost_of(problem, states) for states in landings])[2]
        cutting, rest = parted_letters(problem.letters, landing)
        landed = self.landed(problem, landing, cutting, rest)
        left = Backward(problem.many, rest, problem.stops + landed, problem.end)
        found = self.solved(left, list(range(problem.many)))
        return [found.get(state, self.lines.no) for state in range(problem.many)]

    def landed(self, problem, landing, cutting, rest):
        """Return stops for all cut places: the lines that tell to which landing state they lead."""
        labels = Labels(problem, landing, rest)
        cut = self.lines.any_of([line for line, _ in cutting])
        signs = self.solved(labels.problem(cut), labels.signs(cutting))
        found = {}
        for sign, line in signs.items():
            for (letter, _), label in zip(cutting, sign):
                here = self.lines.and_of(letter, line)
                found[label] = self.lines.or_of(found.get(label, self.lines.no), here)
        told = self.solved(inner_problem(landing, found), list(range(len(landing))))
        return [(self.landing_at(state, found, told), state) for state in landing]

    def landing_at(self, state, found, told):
        """Return the line that holds at the cut places that lead to a landing state."""
        lines = []
        for (_, states), line in found.items():
            # Where the label does not lead to one state for all, it hangs on the next cut place.
            ahead = [told[at] for at, led in enumerate(states) if led == state and at in told]
            if len(set(states)) > 1:
                lines.append(self.lines.and_of(line, self.lines.any_of(ahead)))
            elif state in states:
                lines.append(line)
        return self.lines.any_of(lines)


def inner_problem(landing, found):
    """Return the problem of the cut places alone, whose states are the landing ones."""
    letters = []
    stops = []
    for (is_more, states), line in found.items():
        numbers = tuple([landing.index(state) for state in states])
        if is_more:
            letters.append((line, numbers))
        else:
            stops.append((line, numbers[0]))
    # It is asked of cut places that are not the last one: so it never comes to the end.
    return Backward(len(landing), letters, stops, stops[0][1] if stops else 0)
