"""Of which stretches of a run something holds, kept as one integer for all of them.

The bit with the number `first * many + last` is that of the stretch from the
place `first` to the place `last`. So a step for all stretches at once is a few
operations on integers, even where a chain has very many lines.
"""


class Tables:
    """What can be told of all stretches of runs of so many places."""

    def __init__(self, many):
        self.wide = many
        self.square = (1 << many * many) - 1
        self.diagonal = sum([1 << place * (many + 1) for place in range(many)])
        self.whole = sum([self.row(first, many) for first in range(many)])
        row_starts = sum([1 << first * many for first in range(many)])
        self.steps = []
        step = 1
        while step < many:
            # Behind a step to the right, the first columns are those of the row ahead; and so on.
            low = row_starts * ((1 << step) - 1)
            high = row_starts * ((1 << many) - (1 << many - step))
            self.steps.append((step, self.square ^ low, self.square ^ high))
            step *= 2

    def bit(self, first, last):
        """Return the table of one stretch alone."""
        return 1 << first * self.wide + last

    def row(self, first, end):
        """Return the table of the stretches that begin with a place and end ahead of another one."""
        return (1 << end) - (1 << first) << first * self.wide

    def fact(self, run, fact):
        """Return the table of the stretches all along which there is a fact."""
        table = 0
        end = self.wide
        for first in range(self.wide - 1, -1, -1):
            if fact in run[first]:
                table |= self.row(first, end)
            else:
                # No stretch from an earlier place on goes beyond this one.
                end = first
        return table

    def rightward(self, table):
        """Return the table in which each bit stands in all columns behind its own."""
        if not self.steps:
            return 0
        spread = table << 1 & self.steps[0][1]
        for step, rest, _ in self.steps:
            spread |= spread << step & rest
        return spread

    def leftward(self, table):
        """Return the table in which each bit stands in all columns ahead of its own."""
        if not self.steps:
            return 0
        spread = table >> 1 & self.steps[0][2]
        for step, _, rest in self.steps:
            spread |= spread >> step & rest
        return spread

    def downward(self, table):
        """Return the table in which each bit stands in all rows behind its own."""
        spread = table << self.wide & self.square
        for step, _, _ in self.steps:
            spread |= spread << step * self.wide & self.square
        return spread

    def upward(self, table):
        """Return the table in which each bit stands in all rows ahead of its own."""
        spread = table >> self.wide
        for step, _, _ in self.steps:
            spread |= spread >> step * self.wide
        return spread

    def met_from(self, table):
        """Return the diagonal of the places from which some stretch of a table begins."""
        return (table | self.leftward(table)) & self.diagonal

    def met_to(self, table):
        """Return the diagonal of the places at which some stretch of a table ends."""
        return (table | self.downward(table)) & self.diagonal

    def reaching(self, way, table):
        """Return the table of the stretches from which a way leads to one of a table."""
        return self.spread(way, table) & self.whole

    def spread(self, way, table):
        """Return a table that is right for all stretches; it may have other bits, too."""
        if way == "begins":
            return self.rightward(table)
        if way == "begun":
            return self.leftward(table)
        if way == "ends":
            return self.upward(table)
        if way == "ended":
            return self.downward(table)
        if way == "during":
            return self.upward(self.rightward(table))
        if way == "around":
            return self.downward(self.leftward(table))
        if way == "overlaps":
            return self.upward(self.leftward(table) & self.whole)
        if way == "overlapped":
            return self.rightward(self.downward(table) & self.whole)
        return self.spread_apart(way, table)

    def spread_apart(self, way, table):
        """Return the same for the ways to stretches that share one place at most."""
        if way == "meets":
            begins = self.met_from(table)
            return begins | self.upward(begins)
        if way == "later":
            return self.upward(self.leftward(self.met_from(table)))
        ends = self.met_to(table)
        if way == "met":
            return ends | self.rightward(ends)
        return self.rightward(self.downward(ends))
