"""Which systems no saying of a depth tells apart, and chains of sayings that do."""

from spansay.chains import chain_depth, chain_ways, keeps_chain
from spansay.classes import first_runs_by_kind, types_machine
from spansay.errors import BadPaper, Missing, TooLarge
from spansay.parting import parting_of
from spansay.scenes import MAX_RUN, scenes_of
from spansay.systems import is_track, run_of
from spansay.walks import track_to, walked

MAX_APART = 2000


class Classes:
    """The classes of runs of a depth, and which of them systems have."""

    def __init__(self, facts, ways, depth):
        machine = types_machine(facts, ways, depth)
        firsts = first_runs_by_kind(facts, machine)
        self.runs = list(firsts.values())
        numbers = {kind: number for number, kind in enumerate(firsts)}
        # The class of the runs that lead to each room, None if there are none such.
        self.number_at = [numbers.get(kind) for kind in machine[2]]
        self.scenes = scenes_of(facts)
        self.moves = machine[1]

    def tracks(self, system):
        """Return the dict of the first tracks of the classes that a system has."""
        # All places of a run stand in the stretch of all places: only those marks are read.
        marks = [3 * self.scenes.index(scene) + 1 for scene in system[0]]
        came = walked(system, [[row[mark] for mark in marks] for row in self.moves])
        found = {}
        for pair in came:
            number = self.number_at[pair[1]]
            if number not in found:
                found[number] = track_to(came, pair)
        return found


def classes_had(facts, ways, depth, system):
    """Return the ascending tuple of the numbers of the classes that a system has."""
    return tuple(sorted(Classes(facts, ways, depth).tracks(system)))


def first_own(classes, first, second):
    """Return (which, number, track) for the first class that just one of two systems has, None if there is none."""
    had = (classes.tracks(first), classes.tracks(second))
    for number in range(len(classes.runs)):
        for which in range(2):
            if number in had[which] and number not in had[1 - which]:
                return (which, number, had[which][number])
    return None


def apart(facts, ways, depth, first, second):
    """Return None if two systems are alike, otherwise which one has a class of its own, its number and its track."""
    return first_own(Classes(facts, ways, depth), first, second)


def apart_at(facts, ways, first, second, most):
    """Return the least depth, up to a greatest one, at which two systems are apart, None if there is none."""
    for depth in range(most + 1):
        if apart(facts, ways, depth, first, second) is not None:
            return depth
    return None


class Conjunction:
    """Makes the lines of the conjunction of some chains, and of its `not`."""

    def __init__(self):
        self.lines = []
        self.numbers = {}
        self.last = None

    def add_line(self, line):
        """Put a line behind the others."""
        if len(self.lines) == MAX_APART:
            raise TooLarge(f"the chain has more than {MAX_APART} lines")
        self.numbers.setdefault(line, len(self.lines))
        self.lines.append(line)

    def number_of(self, line):
        """Return the number of a line, which is made if it is not there already."""
        if line not in self.numbers:
            self.add_line(line)
        return self.numbers[line]

    def put_chain(self, chain):
        """Join the saying of one chain more."""
        places = []
        for line in chain:
            told = [places[part] if isinstance(part, int) else part for part in line]
            places.append(self.number_of(tuple(told)))
        self.last = places[-1] if self.last is None else self.number_of(("and", self.last, places[-1]))

    def denied(self):
        """Return the chain of the `not` of the conjunction."""
        self.add_line(("not", self.last))
        return tuple(self.lines)


def check_short(run):
    """Raise TooLarge if a first run has too many places."""
    if len(run) > MAX_RUN:
        raise TooLarge(f"a first run has more than {MAX_RUN} places")


def chain_apart(facts, ways, depth, first, second):
    """Return which system is the keeper, a chain that its runs keep, and a track of the other one that does not."""
    classes = Classes(facts, ways, depth)
    found = first_own(classes, first, second)
    if found is None:
        raise Missing("the systems are alike")
    which, number, track = found
    run = classes.runs[number]
    others = [classes.runs[other] for other in sorted(classes.tracks((second, first)[which]))]
    for needed in [run] + others:
        check_short(needed)
    conjunction = Conjunction()
    for other in others:
        conjunction.put_chain(parting_of(run, other, ways))
    return (1 - which, conjunction.denied(), track)


def judge_apart(facts, ways, depth, keeper, other, chain, track):
    """Raise BadPaper if a chain and a track do not show that two systems are apart."""
    classes = Classes(facts, ways, depth)
    if chain_depth(chain) > depth or not all([way in ways for way in chain_ways(chain)]):
        raise BadPaper("the chain has a greater depth, or another way")
    if not is_track(other, track) or keeps_chain(run_of(other, track), chain):
        raise BadPaper("this is no track of the other system whose run does not keep the chain")
    for number in classes.tracks(keeper):
        if not keeps_chain(classes.runs[number], chain):
            raise BadPaper("a class of the keeper does not keep the chain")
