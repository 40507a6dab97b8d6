"""Gathering what stands at the stretches to which a way leads, for all stretches at once.

A table has a row for each place, with an integer for each place: that of the
stretch from the first place to the second one, and 0 where there is none.
Integers are gathered bit by bit. Going from each stretch to all that it
reaches would take far longer than from each table to the next.
"""

MIRRORED = {
    "ends": "begins",
    "ended": "begun",
    "met": "meets",
    "earlier": "later",
    "overlapped": "overlaps",
}


def blank(many):
    """Return a table of zeros."""
    return [[0] * many for _ in range(many)]


def mirrored(table):
    """Return the table of the run that is read from its last place to its first one."""
    back = list(range(len(table) - 1, -1, -1))
    return [[table[first][last] for first in back] for last in back]


def gathered_begins(table):
    """Gather from the shorter stretches with the same first place."""
    out = blank(len(table))
    for first in range(len(table)):
        for last in range(first + 1, len(table)):
            out[first][last] = out[first][last - 1] | table[first][last - 1]
    return out


def gathered_begun(table):
    """Gather from the longer stretches with the same first place."""
    out = blank(len(table))
    for first in range(len(table)):
        for last in range(len(table) - 2, first - 1, -1):
            out[first][last] = out[first][last + 1] | table[first][last + 1]
    return out


def gathered_during(table):
    """Gather from the stretches within: those that begin one place later, or more."""
    begins = gathered_begins(table)
    out = blank(len(table))
    for first in range(len(table) - 2, -1, -1):
        for last in range(first + 1, len(table)):
            out[first][last] = out[first + 1][last] | begins[first + 1][last]
    return out


def gathered_around(table):
    """Gather from the stretches around: those that begin one place earlier, or more."""
    begun = gathered_begun(table)
    out = blank(len(table))
    for first in range(1, len(table)):
        for last in range(first, len(table)):
            out[first][last] = out[first - 1][last] | begun[first - 1][last]
    return out


def gathered_overlaps(table):
    """Gather from the stretches that begin within and end behind."""
    begun = gathered_begun(table)
    out = blank(len(table))
    for first in range(len(table) - 2, -1, -1):
        for last in range(first + 1, len(table)):
            out[first][last] = out[first + 1][last] | begun[first + 1][last]
    return out


def gathered_from(table):
    """Return the list of what is gathered from all stretches that begin at each place."""
    begun = gathered_begun(table)
    return [table[place][place] | begun[place][place] for place in range(len(table))]


def gathered_meets(table):
    """Gather from the stretches that begin where this one ends."""
    from_place = gathered_from(table)
    out = blank(len(table))
    for first in range(len(table)):
        for last in range(first, len(table)):
            out[first][last] = from_place[last]
    return out


def gathered_later(table):
    """Gather from the stretches that begin behind this one."""
    from_place = gathered_from(table)
    out = blank(len(table))
    behind = 0
    for last in range(len(table) - 1, -1, -1):
        for first in range(last + 1):
            out[first][last] = behind
        behind |= from_place[last]
    return out


def gathered(way, table):
    """Return the table that has for each stretch what stands where the way leads."""
    if way in MIRRORED:
        return mirrored(gathered(MIRRORED[way], mirrored(table)))
    if way == "begins":
        return gathered_begins(table)
    if way == "begun":
        return gathered_begun(table)
    if way == "during":
        return gathered_during(table)
    if way == "around":
        return gathered_around(table)
    if way == "meets":
        return gathered_meets(table)
    if way == "later":
        return gathered_later(table)
    return gathered_overlaps(table)
