"""Chains: sayings, and sayings about what comes later, told line by line."""

from spansay.bittables import Tables
from spansay.errors import NotAllowed, TooLarge
from spansay.sayings import MAX_NODES, parts_and_places
from spansay.sayingtexts import saying_text
from spansay.scenes import WAYS
from spansay.spans import check_stretch

MAX_LINES = 20000
MAX_CHAIN = 250000

# What stands behind the word of a line.
CHAIN_FORMS = {
    "fact": ("fact",),
    "point": (),
    "not": ("line",),
    "and": ("line", "line"),
    "or": ("line", "line"),
    "some": ("way", "line"),
    "all": ("way", "line"),
}
FUTURE_FORMS = {
    "yes": (),
    "here": ("fact",),
    "not": ("line",),
    "and": ("line", "line"),
    "or": ("line", "line"),
    "until": ("line", "line"),
}


def is_element(facts, kind, value, at):
    """Return True if a value may stand in the line with the number `at` where this kind is due."""
    if kind == "line":
        return isinstance(value, int) and 0 <= value < at
    return value in (facts if kind == "fact" else WAYS)


def is_line(facts, line, at, forms):
    """Return True if a tuple is a line of one of these forms, with the number `at`."""
    if not line or not isinstance(line[0], str) or line[0] not in forms:
        return False
    kinds = forms[line[0]]
    if len(line) != len(kinds) + 1:
        return False
    return all([is_element(facts, kind, value, at) for kind, value in zip(kinds, line[1:])])


def check_lines(facts, chain, most, forms):
    """Raise NotAllowed if a tuple of tuples is not 1 to so many lines of these forms."""
    if not 1 <= len(chain) <= most:
        raise NotAllowed(f"a chain has 1 to {most} lines")
    for at, line in enumerate(chain):
        if not is_line(facts, line, at, forms):
            raise NotAllowed("there is something in the chain that is no line")


def check_chain(facts, chain):
    """Raise NotAllowed if a tuple of tuples is not a stretch chain."""
    check_lines(facts, chain, MAX_CHAIN, dict(CHAIN_FORMS))


def check_future(facts, chain):
    """Raise NotAllowed if a tuple of tuples is not a future chain."""
    check_lines(facts, chain, MAX_LINES, dict(FUTURE_FORMS))


def lines_in(line):
    """Return the tuple of the numbers of earlier lines in a line."""
    if line[0] == "some" or line[0] == "all":
        return line[2:]
    return line[1:] if line[0] in ("not", "and", "or", "until") else ()


def needed_lines(chain):
    """Return the ascending list of the lines on which the last line hangs, itself included."""
    is_needed = [False] * len(chain)
    is_needed[-1] = True
    for at in range(len(chain) - 1, -1, -1):
        if is_needed[at]:
            for part in lines_in(chain[at]):
                is_needed[part] = True
    return [at for at in range(len(chain)) if is_needed[at]]


def joined_bits(line, told, whole):
    """Return the bits of a `not`, `and` or `or`, with those of earlier lines and all there are."""
    if line[0] == "not":
        return told[line[1]] ^ whole
    if line[0] == "and":
        return told[line[1]] & told[line[2]]
    return told[line[1]] | told[line[2]]


def table_of_line(tables, run, line, told):
    """Return the table of the stretches of which a line of a stretch chain holds."""
    word = line[0]
    if word == "fact":
        return tables.fact(run, line[1])
    if word == "point":
        return tables.diagonal
    if word == "some":
        return tables.reaching(line[1], told[line[2]])
    if word == "all":
        return tables.reaching(line[1], told[line[2]] ^ tables.whole) ^ tables.whole
    return joined_bits(line, told, tables.whole)


def chain_holds(run, chain, first, last):
    """Return True if the last line of a stretch chain holds of a stretch of a run."""
    check_stretch(len(run), first, last)
    tables = Tables(len(run))
    told = [0] * len(chain)
    for at in needed_lines(chain):
        told[at] = table_of_line(tables, run, chain[at], told)
    return told[-1] & tables.bit(first, last) != 0


def keeps_chain(run, chain):
    """Return True if a run keeps a stretch chain."""
    return chain_holds(run, chain, 0, len(run) - 1)


def places_with(run, fact):
    """Return the bits of the places with a fact: the last place has the lowest bit."""
    bits = 0
    for scene in run:
        bits = bits << 1 | (1 if fact in scene else 0)
    return bits


def until_bits(one, other, whole):
    """Return the bits of the places at which `until` holds, with those of its two lines."""
    # It holds where `other` holds at the next place, or `one` and `until` itself do:
    # so it goes on from place to place as the carry does in this sum.
    either = one | other
    return ((either + other) ^ either ^ other) & whole


def future_at(run, chain, place):
    """Return True if the last line of a future chain holds at a place of a run."""
    if not 0 <= place < len(run):
        raise NotAllowed("this is no place of the run")
    whole = (1 << len(run)) - 1
    told = [0] * len(chain)
    for at in needed_lines(chain):
        line = chain[at]
        if line[0] == "yes":
            told[at] = whole
        elif line[0] == "here":
            told[at] = places_with(run, line[1])
        elif line[0] == "until":
            told[at] = until_bits(told[line[1]], told[line[2]], whole)
        else:
            told[at] = joined_bits(line, told, whole)
    return told[-1] >> len(run) - 1 - place & 1 == 1


def keeps_future(run, chain):
    """Return True if a run keeps a future chain."""
    return future_at(run, chain, 0)


def chain_depth(chain):
    """Return the depth of the saying for which the last line of a stretch chain stands."""
    depths = []
    for line in chain:
        depth = max([depths[part] for part in lines_in(line)], default=0)
        depths.append(depth + 1 if line[0] == "some" or line[0] == "all" else depth)
    return depths[-1]


def chain_ways(chain):
    """Return the tuple of the ways in the saying for which the last line stands."""
    found = {}
    for at in needed_lines(chain):
        if chain[at][0] == "some" or chain[at][0] == "all":
            found[chain[at][1]] = True
    return tuple([way for way in WAYS if way in found])


def line_of(part, numbers):
    """Return the line of a part of a saying, with the numbers of the lines of its parts."""
    if part[0] == "fact" or part[0] == "point":
        return part
    if part[0] == "some" or part[0] == "all":
        return part[:2] + numbers
    return part[:1] + numbers


def chain_of(saying):
    """Return the stretch chain with one line for each different part of a saying."""
    chain = []
    known = {}
    places = []
    for part, within in parts_and_places(saying):
        text = saying_text(part)
        if text not in known:
            known[text] = len(chain)
            chain.append(line_of(part, tuple([places[at] for at in within])))
        places.append(known[text])
    return tuple(chain)


def saying_of(chain):
    """Return the saying for which the last line of a stretch chain stands."""
    nodes = []
    sayings = []
    for line in chain:
        parts = lines_in(line)
        many = 1 + sum([nodes[part] for part in parts])
        # A chain can stand for immensely many nodes: more than enough is all that is told of them.
        nodes.append(min(many, MAX_NODES + 1))
        is_small = many <= MAX_NODES
        sayings.append(line_of(line, tuple([sayings[part] for part in parts])) if is_small else None)
    if sayings[-1] is None:
        raise TooLarge(f"the saying has more than {MAX_NODES} nodes")
    return sayings[-1]


class Stretching:
    """Makes the lines of a stretch chain for the lines of a future chain."""

    def __init__(self):
        self.lines = [("point",), ("not", 0), ("or", 0, 1), ("some", "begun", 2), ("not", 3)]
        self.point = 0
        self.more = 1
        self.last = 4

    def put(self, line):
        """Put a line behind the others, and return its number."""
        self.lines.append(line)
        return len(self.lines) - 1

    def beginning(self, at):
        """Return the line that holds if this one does, or holds of a shorter beginning."""
        return self.put(("or", at, self.put(("some", "begins", at))))

    def told_at_end(self, at):
        """Return the line that holds of a stretch if this one does from its last place on."""
        return self.put(("some", "meets", self.put(("and", self.last, at))))

    def here(self, fact):
        """Return the line that holds of a stretch if its first place has a fact."""
        return self.beginning(self.put(("and", self.point, self.put(("fact", fact)))))

    def until(self, one, other):
        """Return the line of an `until` of two lines that are told of stretches."""
        between = self.put(("or", self.point, self.told_at_end(one)))
        inner = self.put(("and", self.put(("all", "begins", between)), self.told_at_end(other)))
        return self.beginning(self.put(("and", self.more, inner)))


def stretched(chain):
    """Return a stretch chain that holds, up to the last place, where a future chain does."""
    made = Stretching()
    numbers = []
    for line in chain:
        parts = tuple([numbers[part] for part in lines_in(line)])
        if line[0] == "yes":
            numbers.append(made.put(("or", made.point, made.more)))
        elif line[0] == "here":
            numbers.append(made.here(line[1]))
        elif line[0] == "until":
            numbers.append(made.until(parts[0], parts[1]))
        else:
            numbers.append(made.put(line[:1] + parts))
    return tuple(made.lines)
