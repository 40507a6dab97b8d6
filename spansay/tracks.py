"""Sayings of paths of systems: where ways lead, and the readers of sayings."""

from spansay.errors import NotAllowed
from spansay.machines import lets_by
from spansay.paths import states_after
from spansay.pathstates import PathStates
from spansay.systems import is_path
from spansay.takers import worked_parts

# A way leads from one path to another one if the way here leads from the other one to it.
TURNED = {
    "begun": "begins",
    "ended": "ends",
    "around": "during",
    "met": "meets",
    "earlier": "later",
    "overlapped": "overlaps",
}


def check_path(system, row):
    """Raise NotAllowed if a row is no path of a system."""
    if not is_path(system, row):
        raise NotAllowed("the row is no path of the system")


def stands_within(one, other):
    """Return True if one row stands in another one, with something ahead of it and behind it."""
    lengths = range(1, len(other) - len(one))
    return any([other[at:at + len(one)] == one for at in lengths])


def are_overlapping(one, other):
    """Return True if the end of one row is the beginning of another one, and neither is all of it."""
    lengths = range(1, min(len(one), len(other)))
    return any([one[-length:] == other[:length] for length in lengths])


def is_way_between(system, way, one, other):
    """Return True if a way leads from one path to another one."""
    if way in TURNED:
        return is_way_between(system, TURNED[way], other, one)
    if way == "begins":
        return len(other) < len(one) and one[:len(other)] == other
    if way == "ends":
        return len(other) < len(one) and one[-len(other):] == other
    if way == "during":
        return stands_within(other, one)
    if way == "meets":
        return one[-1] == other[0]
    if way == "later":
        return other[0] in states_after(system, one[-1])
    return are_overlapping(one, other)


def ways_between(system, way, one, other):
    """Return True if a way leads from the first one of two paths to the second one."""
    check_path(system, one)
    check_path(system, other)
    return is_way_between(system, way, one, other)


def worked_readers(system, saying):
    """Return the list of all parts of a saying, in order, with their readers."""
    return worked_parts(tuple(range(len(system[0]))), saying, PathStates(system))


def reader_of(system, saying):
    """Return the reader of a saying."""
    return worked_readers(system, saying)[-1].machine


def holds_of(system, saying, path):
    """Return True if a saying holds of a path."""
    check_path(system, path)
    return lets_by(reader_of(system, saying), path)
