"""What deeds of mends cost, and the least prices at which rows of scenes come of a run.

Scenes are told by their numbers here, and a run by the list of these.
"""

from spansay.errors import TooLarge
from spansay.machines import lets_of
from spansay.scenes import scenes_of

# More than any price that can come up.
FAR = 1000000000000


class Prices:
    """The prices of deeds."""

    def __init__(self, facts, prices):
        self.put, self.leave, turns = prices
        many = len(scenes_of(facts))
        self.turn = [[price_of_turn(turns, one ^ other) for other in range(many)] for one in range(many)]


def price_of_turn(turns, bits):
    """Return the sum of the prices of the facts with these bits."""
    return sum([price for at, price in enumerate(turns) if bits >> at & 1])


class Columns:
    """The least prices to come from a run to the stands of a machine, place by place.

    Stands are the rooms, and behind them `nothing yet`, from which a scene leads
    where it leads from the room 0.
    """

    def __init__(self, prices, run, machine):
        self.prices = prices
        self.run = run
        self.rows = machine[1] + machine[1][:1]
        self.lets = lets_of(machine)

    def with_puts(self, column):
        """Return the prices of a column, also by deeds that put scenes in."""
        column = list(column)
        is_new = True
        while is_new:
            is_new = False
            for stand, row in enumerate(self.rows):
                price = column[stand] + self.prices.put
                for after in row:
                    if price < column[after]:
                        column[after] = price
                        is_new = True
        return column

    def start(self):
        """Return the column ahead of the first place."""
        return self.with_puts([FAR] * len(self.lets) + [0])

    def behind(self, column, old):
        """Return the column behind one place more, which has the scene `old`."""
        coming = [price + self.prices.leave for price in column]
        turn = self.prices.turn[old]
        for price, row in zip(column, self.rows):
            for scene, after in enumerate(row):
                coming[after] = min(coming[after], price + turn[scene])
        return self.with_puts(coming)

    def least(self, column):
        """Return the least price of a column in a room that lets by, FAR or more if there is none."""
        return min([price for price, is_let in zip(column, self.lets) if is_let], default=FAR)

    def distance(self):
        """Return the least price to come to a room that lets by, FAR or more if there is none."""
        column = self.start()
        for old in self.run:
            column = self.behind(column, old)
        return self.least(column)


class Nearest:
    """All rows of scenes that may lead to the nearest runs, by their vectors and rooms.

    A vector has for each number of places the least price of making the row
    from so many of the first places; prices above the distance count as one more.
    """

    def __init__(self, columns, distance, most):
        self.columns = columns
        self.cap = distance + 1
        self.known = {}
        prices = columns.prices
        start = [min(place * prices.leave, self.cap) for place in range(len(columns.run) + 1)]
        self.pairs = [(tuple(start), 0)]
        self.numbers = {self.pairs[0]: 0}
        self.came = [None]
        self.after = []
        while len(self.after) < len(self.pairs):
            self.after.append(self.numbers_behind(len(self.after)))
            if len(self.pairs) > most:
                raise TooLarge("the nearest runs are too many to tell")

    def vector_behind(self, vector, scene):
        """Return the vector behind one scene more."""
        key = (vector, scene)
        if key not in self.known:
            prices = self.columns.prices
            row = [min(vector[0] + prices.put, self.cap)]
            for place, old in enumerate(self.columns.run):
                turned = vector[place] + prices.turn[old][scene]
                price = min(turned, vector[place + 1] + prices.put, row[place] + prices.leave)
                row.append(min(price, self.cap))
            self.known[key] = tuple(row)
        return self.known[key]

    def numbers_behind(self, at):
        """Return the list of the pairs behind a pair: (scene, number), without those that are too far."""
        vector, room = self.pairs[at]
        found = []
        for scene, after in enumerate(self.columns.rows[room]):
            pair = (self.vector_behind(vector, scene), after)
            if min(pair[0]) == self.cap:
                continue
            if pair not in self.numbers:
                self.numbers[pair] = len(self.pairs)
                self.pairs.append(pair)
                self.came.append((at, scene))
            found.append((scene, self.numbers[pair]))
        return found

    def is_nearest(self, number):
        """Return True if rows that lead to a pair are nearest runs."""
        vector, room = self.pairs[number]
        # No scene leads to the first pair: it is that of the empty row, which is no run.
        return number > 0 and vector[-1] < self.cap and self.columns.lets[room]

    def first(self):
        """Return the list of the scenes of the first nearest run."""
        at = 0
        while not self.is_nearest(at):
            at += 1
        row = []
        while self.came[at] is not None:
            at, scene = self.came[at]
            row.append(scene)
        row.reverse()
        return row

    def how_many(self):
        """Return the number of the nearest runs."""
        total = 0
        counts = {0: 1}
        while counts:
            coming = {}
            for number in counts:
                for _, after in self.after[number]:
                    coming[after] = coming.get(after, 0) + counts[number]
            counts = coming
            total += sum([counts[number] for number in counts if self.is_nearest(number)])
        return total


def least_deeds(prices, run, row):
    """Return the list of deeds that make a row of a run with the least price.

    A deed is a pair of True or False, whether it uses up a place, and of the scene that it
    makes, None if it makes none.
    """
    table = [[0] * (len(row) + 1) for _ in range(len(run) + 1)]
    for place in range(len(run) + 1):
        for at in range(len(row) + 1):
            table[place][at] = min([price for price, _, _ in steps_to(prices, run, row, table, place, at)], default=0)
    deeds = []
    place, at = len(run), len(row)
    while place or at:
        _, is_used, scene = min(steps_to(prices, run, row, table, place, at), key=price_of_step)
        deeds.append((is_used, scene))
        place -= 1 if is_used else 0
        at -= 0 if scene is None else 1
    deeds.reverse()
    return deeds


def price_of_step(step):
    """Return the price of a step."""
    return step[0]


def steps_to(prices, run, row, table, place, at):
    """Return the list of (price, is_used, scene) for the last deed up to some places and scenes."""
    steps = []
    if place and at:
        price = table[place - 1][at - 1] + prices.turn[run[place - 1]][row[at - 1]]
        steps.append((price, True, row[at - 1]))
    if place:
        steps.append((table[place - 1][at] + prices.leave, True, None))
    if at:
        steps.append((table[place][at - 1] + prices.put, False, row[at - 1]))
    return steps
