"""The states of the parts of a saying behind rows of marks, for machines of the parts within.

A mark is told by its number `at` among the marks: three times the number of
its scene, and its zone. Each class tells of one form of parts: `start()`, the
state of the empty row; `after(state, at)`, the state behind one mark more;
`is_good(state)`; `told(state)`, the state as papers tell it; `understood(value)`,
the state that a value in a paper tells, None if it tells none; and
`set_in(state)`, the set in a state, None if there is none.
"""

from spansay.blocks import blocks_of, may_end, next_blocks
from spansay.machines import lets_of
from spansay.spans import is_pair

ZONES = (0, 1, 2)
FORM_AFTER = ((0, 1, 3), (3, 1, 2), (3, 3, 2), (3, 3, 3))
FORMS = (0, 1, 2, 3)
MARKED = (1, 2)


class FormStates:
    """States that are forms: what both `point` and `fact` have."""

    def start(self):
        return 0

    def is_good(self, state):
        return state in MARKED

    def told(self, state):
        return state

    def understood(self, value):
        return value if value in FORMS else None

    def set_in(self, state):
        return None


class PointStates(FormStates):
    """The states of `point`."""

    def after(self, state, at):
        if state == 1 and at % 3 == 1:
            return 3
        return FORM_AFTER[state][at % 3]


class FactStates(FormStates):
    """The states of a fact, told by its bit in the numbers of scenes."""

    def __init__(self, bit):
        self.bit = bit

    def after(self, state, at):
        scene = at // 3
        if at % 3 == 1 and not scene >> self.bit & 1:
            return 3
        return FORM_AFTER[state][at % 3]


class PairStates:
    """States that are pairs: what `not`, `and` and `or` have."""

    def start(self):
        return (0, 0)

    def told(self, state):
        return state

    def set_in(self, state):
        return None


class NotStates(PairStates):
    """The states of a `not`: a room of the part within, and a form."""

    def __init__(self, machine):
        self.moves = machine[1]
        self.lets = lets_of(machine)

    def after(self, state, at):
        return (self.moves[state[0]][at], FORM_AFTER[state[1]][at % 3])

    def is_good(self, state):
        return state[1] in MARKED and not self.lets[state[0]]

    def understood(self, value):
        if is_pair(value) and 0 <= value[0] < len(self.moves) and value[1] in FORMS:
            return value
        return None


class BothStates(PairStates):
    """The states of an `and` or an `or`: a room of each part."""

    def __init__(self, word, first, second):
        self.word = word
        self.ones = first[1]
        self.others = second[1]
        self.one_lets = lets_of(first)
        self.other_lets = lets_of(second)

    def after(self, state, at):
        return (self.ones[state[0]][at], self.others[state[1]][at])

    def is_good(self, state):
        one = self.one_lets[state[0]]
        other = self.other_lets[state[1]]
        return one and other if self.word == "and" else one or other

    def understood(self, value):
        if is_pair(value) and 0 <= value[0] < len(self.ones) and 0 <= value[1] < len(self.others):
            return value
        return None


def steps_of(way, zone):
    """Return the list of (block, other zone, blocks ahead) for places of a zone."""
    steps = []
    for block, row in enumerate(blocks_of(way)):
        if row[0] == zone:
            ahead = [at for at in range(-1, len(blocks_of(way))) if block in next_blocks(way, at)]
            steps.append((block, row[1], tuple(ahead)))
    return steps


class Sets:
    """The sets of a way and a machine.

    A set is kept as a tuple of integers, for the block -1 and then for each
    block: the bits are the rooms. So all rooms with one block take one step.
    """

    def __init__(self, way, machine):
        self.moves = machine[1]
        self.many = len(blocks_of(way))
        self.steps = [steps_of(way, zone) for zone in ZONES]
        self.ends = [block for block in range(self.many) if may_end(way, block)]
        self.let_by = sum([1 << room for room in machine[2]])
        self.images = {}

    def start(self):
        return (1,) + (0,) * self.many

    def image(self, rooms, at):
        """Return the rooms to which a mark leads from some rooms, as bits."""
        if (rooms, at) in self.images:
            return self.images[(rooms, at)]
        image = 0
        left = rooms
        while left:
            room = left.bit_length() - 1
            left ^= 1 << room
            image |= 1 << self.moves[room][at]
        self.images[(rooms, at)] = image
        return image

    def after(self, masks, at):
        zone = at % 3
        after = [0] * (self.many + 1)
        for block, other, ahead in self.steps[zone]:
            rooms = 0
            for source in ahead:
                rooms |= masks[source + 1]
            if rooms:
                after[block + 1] = self.image(rooms, at - zone + other)
        return tuple(after)

    def ended(self, masks):
        """Return the rooms, as bits, of the pairs that may be the last ones."""
        rooms = 0
        for block in self.ends:
            rooms |= masks[block + 1]
        return rooms

    def some_end(self, masks):
        """Return True if a pair that may be the last one has a room that lets by."""
        return self.ended(masks) & self.let_by != 0

    def all_end(self, masks):
        """Return True if each pair that may be the last one has a room that lets by."""
        return self.ended(masks) & ~self.let_by == 0

    def told(self, masks):
        pairs = []
        for room in range(len(self.moves)):
            for at, mask in enumerate(masks):
                if mask >> room & 1:
                    pairs.append((room, at - 1))
        return tuple(pairs)

    def is_told_pair(self, value):
        """Return True if a value is a pair of a room and -1 or the number of a block."""
        return is_pair(value) and 0 <= value[0] < len(self.moves) and -1 <= value[1] < self.many

    def understood(self, value):
        if not isinstance(value, tuple):
            return None
        masks = [0] * (self.many + 1)
        least = (-1, -1)
        for pair in value:
            if not self.is_told_pair(pair) or pair <= least:
                return None
            masks[pair[1] + 1] |= 1 << pair[0]
            least = pair
        return tuple(masks)


class SomeStates:
    """The states of a `some`: sets."""

    def __init__(self, way, machine):
        self.sets = Sets(way, machine)

    def start(self):
        return self.sets.start()

    def after(self, state, at):
        return self.sets.after(state, at)

    def is_good(self, state):
        return self.sets.some_end(state)

    def told(self, state):
        return self.sets.told(state)

    def understood(self, value):
        return self.sets.understood(value)

    def set_in(self, state):
        return state


class AllStates:
    """The states of an `all`: a set and a form."""

    def __init__(self, way, machine):
        self.sets = Sets(way, machine)

    def start(self):
        return (self.sets.start(), 0)

    def after(self, state, at):
        return (self.sets.after(state[0], at), FORM_AFTER[state[1]][at % 3])

    def is_good(self, state):
        return state[1] in MARKED and self.sets.all_end(state[0])

    def told(self, state):
        return (self.sets.told(state[0]), state[1])

    def understood(self, value):
        if not isinstance(value, tuple) or len(value) != 2 or value[1] not in FORMS:
            return None
        masks = self.sets.understood(value[0])
        return None if masks is None else (masks, value[1])

    def set_in(self, state):
        return state[0]


class MarkStates:
    """Tells the states of the parts of a saying for the marks of facts."""

    def __init__(self, facts):
        self.facts = facts

    def states_of(self, part, machines):
        """Return the states of a part, with the machines of the parts directly within it."""
        word = part[0]
        if word == "point":
            return PointStates()
        if word == "fact":
            return FactStates(self.facts.index(part[1]))
        if word == "not":
            return NotStates(machines[0])
        if word == "some":
            return SomeStates(part[1], machines[0])
        if word == "all":
            return AllStates(part[1], machines[0])
        return BothStates(word, machines[0], machines[1])
