"""Of which stretches of a run a saying and its parts hold."""

from spansay.gathering import blank, gathered
from spansay.sayings import parts_of


class Truth:
    """Of which stretches of a run a saying holds, with the same of its parts."""

    def __init__(self, saying, table, parts):
        self.saying = saying
        self.table = table
        self.parts = parts

    def is_true(self, stretch):
        """Return True if the saying holds of a stretch."""
        return self.table[stretch[0]][stretch[1]] == 1


def fact_table(run, fact):
    """Return the table with 1 for the stretches all along which there is a fact."""
    table = blank(len(run))
    for first in range(len(run)):
        last = first
        while last < len(run) and fact in run[last]:
            table[first][last] = 1
            last += 1
    return table


def point_table(many):
    """Return the table with 1 for the stretches of one place."""
    table = blank(many)
    for place in range(many):
        table[place][place] = 1
    return table


def turned(table):
    """Return the table with 1 for the stretches that have 0."""
    out = blank(len(table))
    for first in range(len(table)):
        for last in range(first, len(table)):
            out[first][last] = 1 - table[first][last]
    return out


def joined_tables(word, one, other):
    """Return the table of an `and` or an `or` of two parts."""
    out = blank(len(one))
    for first in range(len(one)):
        for last in range(first, len(one)):
            if word == "and":
                out[first][last] = one[first][last] & other[first][last]
            else:
                out[first][last] = one[first][last] | other[first][last]
    return out


def table_of(run, saying, tables):
    """Return the table of a saying, with those of the parts directly within it."""
    word = saying[0]
    if word == "fact":
        return fact_table(run, saying[1])
    if word == "point":
        return point_table(len(run))
    if word == "not":
        return turned(tables[0])
    if word == "some":
        return gathered(saying[1], tables[0])
    if word == "all":
        return turned(gathered(saying[1], turned(tables[0])))
    return joined_tables(word, tables[0], tables[1])


def truth_of(run, saying):
    """Return of which stretches of a run a saying and its parts hold."""
    parts = [truth_of(run, part) for part in parts_of(saying)]
    return Truth(saying, table_of(run, saying, [part.table for part in parts]), parts)
