"""Parting chains: sayings that hold of one run and not of another one."""

from spansay.chains import chain_ways, keeps_chain
from spansay.errors import BadPaper, Missing, TooLarge
from spansay.gathering import gathered
from spansay.types import masks_of, parted_at, stretches_of, tables_by_depth

MAX_PARTING = 300


def numbers_in(mask):
    """Return the ascending list of the numbers of the bits of an integer."""
    return [number for number in range(mask.bit_length()) if mask >> number & 1]


def held_facts(run, stretch):
    """Return the list of the facts that hold of a stretch, in the order of texts."""
    first, last = stretch
    return sorted([fact for fact in run[first] if all([fact in scene for scene in run[first:last + 1]])])


class Parting:
    """Makes the lines of the parting sayings of stretches of two runs.

    A stretch `a` is one of the run with the number `side`, and `b` is one of the
    other run. The saying hangs on nothing but the types of both.
    """

    def __init__(self, first, second, ways, depth):
        self.runs = (first, second)
        self.ways = ways
        self.depths = tables_by_depth(self.runs, ways, depth)
        self.seen = {}
        self.samples = {}
        self.lines = []
        self.numbers = {}
        self.known = {}

    def put(self, line):
        """Return the number of a line, which is made if it is not there already."""
        if line not in self.numbers:
            if len(self.lines) == MAX_PARTING:
                raise TooLarge(f"the chain has more than {MAX_PARTING} lines")
            self.numbers[line] = len(self.lines)
            self.lines.append(line)
        return self.numbers[line]

    def kind(self, depth, side, stretch):
        """Return the number of the type of a stretch."""
        return self.depths[depth][side][stretch[0]][stretch[1]]

    def kinds_reached(self, depth, side, way, stretch):
        """Return the bits of the types of a depth to which a way leads from a stretch."""
        key = (depth, side, way)
        if key not in self.seen:
            self.seen[key] = gathered(way, masks_of(self.depths[depth][side]))
        return self.seen[key][stretch[0]][stretch[1]]

    def sample(self, depth, side, kind):
        """Return a stretch with a type; which one, is all the same."""
        key = (depth, side)
        if key not in self.samples:
            table = self.depths[depth][side]
            self.samples[key] = {table[i][j]: (i, j) for i, j in stretches_of(len(table))}
        return self.samples[key][kind]

    def parted_depth(self, side, a, b):
        """Return the least depth at which two stretches have different types."""
        depth = 0
        while self.kind(depth, side, a) == self.kind(depth, 1 - side, b):
            depth += 1
        return depth

    def parted(self, side, a, b):
        """Return the line of the parting saying of two stretches."""
        depth = self.parted_depth(side, a, b)
        key = (depth, self.kind(depth, side, a), self.kind(depth, 1 - side, b))
        if key not in self.known:
            if depth == 0:
                self.known[key] = self.parted_at_once(side, a, b)
            else:
                self.known[key] = self.parted_by_way(depth, side, a, b)
        return self.known[key]

    def parted_at_once(self, side, a, b):
        """Return the line for stretches with different types of depth 0."""
        ones = held_facts(self.runs[side], a)
        others = held_facts(self.runs[1 - side], b)
        for fact in ones:
            if fact not in others:
                return self.put(("fact", fact))
        for fact in others:
            if fact not in ones:
                return self.put(("not", self.put(("fact", fact))))
        point = self.put(("point",))
        return point if a[0] == a[1] else self.put(("not", point))

    def parted_by_way(self, depth, side, a, b):
        """Return the line for stretches that are parted by where some way leads."""
        for way in self.ways:
            ones = self.kinds_reached(depth - 1, side, way, a)
            others = self.kinds_reached(depth - 1, 1 - side, way, b)
            if ones & ~others:
                kind = numbers_in(ones & ~others)[0]
                return self.put(("some", way, self.parted_from_all(depth - 1, side, kind, numbers_in(others))))
            if others & ~ones:
                return self.put(("not", self.parted(1 - side, b, a)))
        raise Missing("the stretches have the same types")

    def parted_from_all(self, depth, side, kind, others):
        """Return the line that parts a type from all of these types of the other run."""
        if not others:
            point = self.put(("point",))
            return self.put(("or", point, self.put(("not", point))))
        c = self.sample(depth, side, kind)
        at = self.parted(side, c, self.sample(depth, 1 - side, others[0]))
        for other in others[1:]:
            at = self.put(("and", at, self.parted(side, c, self.sample(depth, 1 - side, other))))
        return at


def parting_of(first, second, ways):
    """Return the parting chain of two runs."""
    depth = parted_at(first, second, ways)
    if depth is None:
        raise Missing("the runs are parted at no depth")
    made = Parting(first, second, ways, depth)
    made.parted(0, (0, len(first) - 1), (0, len(second) - 1))
    return tuple(made.lines)


def judge_parting(first, second, ways, chain):
    """Raise BadPaper if a stretch chain does not part two runs with these ways alone."""
    if not all([way in ways for way in chain_ways(chain)]):
        raise BadPaper("there is another way in the saying")
    if not keeps_chain(first, chain) or keeps_chain(second, chain):
        raise BadPaper("the chain does not hold of the first run, or it holds of the second one")
