"""The vectors of the rows of a machine: what it costs to make runs of another machine of them."""

from spansay.components import useful_rooms
from spansay.errors import TooLarge
from spansay.machines import lets_of
from spansay.merging import row_back


class Vectors:
    """All pairs of a room and a vector, of all rows that lead to useful rooms.

    Vectors are the columns of mends.py, in which prices above the cap count as one more than it.
    For each pair the column of its first row is kept, too, with the prices as they are.
    """

    def __init__(self, columns, machine, cap, most):
        self.columns = columns
        self.moves = machine[1]
        self.lets = lets_of(machine)
        self.is_useful = useful_rooms(machine)
        self.above = cap + 1
        self.known = {}
        start = columns.start()
        self.pairs = [(0, self.capped(start))]
        self.exact = [start]
        self.met = {self.pairs[0]: True}
        self.came = {0: None}
        at = 0
        while at < len(self.pairs):
            self.go_on(at)
            if len(self.pairs) > most:
                raise TooLarge(f"there are more than {most} pairs of a room and a vector")
            at += 1

    def capped(self, column):
        """Return the vector of a column."""
        return tuple([min(price, self.above) for price in column])

    def vector_behind(self, vector, scene):
        """Return the vector behind one scene more."""
        key = (vector, scene)
        if key not in self.known:
            self.known[key] = self.capped(self.columns.behind(vector, scene))
        return self.known[key]

    def go_on(self, at):
        """Put the pairs behind a pair behind the others."""
        room, vector = self.pairs[at]
        for scene, after in enumerate(self.moves[room]):
            if not self.is_useful[after]:
                continue
            pair = (after, self.vector_behind(vector, scene))
            if pair not in self.met:
                self.met[pair] = True
                self.came[len(self.pairs)] = (at, scene)
                self.pairs.append(pair)
                self.exact.append(self.columns.behind(self.exact[at], scene))

    def runs(self):
        """Return the list of the numbers of the pairs to which runs lead that the machine lets by."""
        # No row but the empty one leads to the first pair: to make nothing of places has a price.
        return [at for at in range(1, len(self.pairs)) if self.lets[self.pairs[at][0]]]

    def greatest(self):
        """Return the greatest distance of the first runs of all pairs."""
        return max([self.columns.least(self.exact[at]) for at in self.runs()])

    def first_with(self, distance):
        """Return the letters of the first run with a distance."""
        firsts = [at for at in self.runs() if self.columns.least(self.pairs[at][1]) == distance]
        return row_back(self.came, firsts[0])
