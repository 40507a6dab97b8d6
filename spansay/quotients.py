"""Backward problems: rows of letters that are read from a later place to an earlier one.

States are numbers from 0 on. A letter is a pair of a line, which holds at the
places where it stands, and a tuple with a state for each state: reading it,
one comes from what is the state behind its place to that ahead of it. A stop
is a pair of a line and a state: behind a place at which it holds, nothing
counts, and the state ahead of it is this one. If there is no stop, one begins
at the end of the run with the state `end`. No two lines hold at one place;
places without a letter or a stop change nothing.
"""

from spansay.merging import refined


class Backward:
    """A backward problem."""

    def __init__(self, many, letters, stops, end):
        self.many = many
        self.letters = letters
        self.stops = stops
        self.end = end

    def maps(self):
        """Return the list of the tuples of the letters."""
        return [states for _, states in self.letters]

    def met_states(self):
        """Return the list of the states that can come up."""
        order = []
        met = [False] * self.many
        waiting = [self.end] + [state for _, state in self.stops]
        while waiting:
            state = waiting.pop()
            if not met[state]:
                met[state] = True
                order.append(state)
                waiting.extend([states[state] for states in self.maps()])
        return order

    def renumbered(self, numbers, many):
        """Return the problem in which states have the numbers of a dict, from 0 on."""
        letters = []
        for line, states in self.letters:
            row = [0] * many
            for state, number in numbers.items():
                row[number] = numbers[states[state]]
            letters.append((line, tuple(row)))
        stops = [(line, numbers[state]) for line, state in self.stops]
        return Backward(many, letters, stops, numbers[self.end])

    def told_apart(self, signs):
        """Return the dict of a number for each state that can come up, by the signs of states.

        States with the same number come to the same signs, whatever is read.
        """
        names = {}
        kinds = {state: names.setdefault(signs[state], len(names)) for state in self.met_states()}
        moves = {state: [states[state] for states in self.maps()] for state in kinds}
        return refined(moves, kinds, self.many)


def with_pair_joined(blocks, maps, pair):
    """Return the finest blocks that are coarser than some blocks, with two states in one of them.

    Blocks are a list with a number for each state. Letters lead from states of
    one block to states of one block.
    """
    blocks = list(blocks)
    waiting = [pair]
    while waiting:
        one, other = waiting.pop()
        if blocks[one] != blocks[other]:
            gone = blocks[other]
            blocks = [blocks[one] if block == gone else block for block in blocks]
            waiting.extend([(states[one], states[other]) for states in maps])
    return blocks


def coarsest_between(many, maps, apart):
    """Return blocks that cannot be made coarser with this pair of states in two of them."""
    blocks = list(range(many))
    for other in range(many):
        for one in range(other):
            if blocks[one] != blocks[other]:
                coarser = with_pair_joined(blocks, maps, (one, other))
                if coarser[apart[0]] != coarser[apart[1]]:
                    blocks = coarser
    return blocks


def tell_all_apart(many, partitions):
    """Return True if for each two states one of these lists of blocks tells them apart."""
    return len(set([tuple([blocks[state] for blocks in partitions]) for state in range(many)])) == many


def partitions_of(many, maps):
    """Return a list of blocks, as coarse as can be, that together tell all states apart."""
    partitions = []
    for other in range(many):
        for one in range(other):
            if all([blocks[one] == blocks[other] for blocks in partitions]):
                partitions.append(coarsest_between(many, maps, (one, other)))
    for blocks in list(partitions):
        rest = [kept for kept in partitions if kept != blocks]
        if tell_all_apart(many, rest):
            partitions = rest
    return partitions
