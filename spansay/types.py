"""Types of stretches: which of them no saying of a depth tells apart.

Types are kept as tables of gathering.py are: a row for each place, with the
number of the type of the stretch from the first place to the second one.
"""

from spansay.errors import NotAllowed
from spansay.gathering import blank, gathered
from spansay.scenes import WAYS

MAX_DEPTH = 6


def check_ways(ways):
    """Raise NotAllowed if a tuple of texts is not ways in their order, each at most once."""
    if ways != tuple([way for way in WAYS if way in ways]):
        raise NotAllowed("these are not ways in their order")


def stretches_of(many):
    """Return the list of all stretches of a run of so many places, in order."""
    return [(first, last) for first in range(many) for last in range(first, many)]


def numbered(rows):
    """Return the tables in which equal signs have equal numbers, in the order of their coming.

    Each row is a pair of a number of places and the list of the signs of all stretches.
    """
    numbers = {}
    tables = []
    for many, signs in rows:
        table = blank(many)
        for (first, last), sign in zip(stretches_of(many), signs):
            table[first][last] = numbers.setdefault(sign, len(numbers))
        tables.append(table)
    return tables


def first_signs(run):
    """Return the list of what tells the types of depth 0 of all stretches of a run."""
    signs = []
    for first, scene in enumerate(run):
        held = scene
        for last in range(first, len(run)):
            held = tuple([fact for fact in held if fact in run[last]])
            signs.append((held, first == last))
    return signs


def first_tables(runs):
    """Return the tables of the types of depth 0."""
    return numbered([(len(run), first_signs(run)) for run in runs])


def masks_of(table):
    """Return the table that has for each stretch the bit of its type."""
    masks = blank(len(table))
    for first, last in stretches_of(len(table)):
        masks[first][last] = 1 << table[first][last]
    return masks


def next_signs(zero, table, ways):
    """Return the list of what tells the types of the depth behind that of a table."""
    masks = masks_of(table)
    reached = [gathered(way, masks) for way in ways]
    signs = []
    for first, last in stretches_of(len(table)):
        signs.append((zero[first][last],) + tuple([seen[first][last] for seen in reached]))
    return signs


def next_tables(zeros, tables, ways):
    """Return the tables of the types of the depth behind that of the tables."""
    rows = []
    for zero, table in zip(zeros, tables):
        rows.append((len(table), next_signs(zero, table, ways)))
    return numbered(rows)


def tables_by_depth(runs, ways, depth):
    """Return the list of the tables of the types of the depths from 0 on."""
    depths = [first_tables(runs)]
    for _ in range(depth):
        depths.append(next_tables(depths[0], depths[-1], ways))
    return depths


def types_of(runs, ways, depth):
    """Return for each run the tuple of the numbers of the types of its stretches, in order."""
    tables = tables_by_depth(runs, ways, depth)[-1]
    return tuple([
        tuple([table[first][last] for first, last in stretches_of(len(table))])
        for table in tables
    ])


def count_types(tables):
    """Return the number of the types in some tables."""
    return 1 + max([max([max(row) for row in table]) for table in tables])


def parted_at(first, second, ways):
    """Return the least depth at which two runs have different types, None if there is none."""
    zeros = first_tables((first, second))
    tables = zeros
    depth = 0
    many = 0
    # Types never come together again: where none is parted any more, all stays as it is.
    while count_types(tables) > many:
        if tables[0][0][-1] != tables[1][0][-1]:
            return depth
        many = count_types(tables)
        tables = next_tables(zeros, tables, ways)
        depth += 1
    return None
