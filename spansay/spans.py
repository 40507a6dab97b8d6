"""Where ways lead, told by bounds of places."""

from spansay.errors import NotAllowed


def check_stretch(many, first, last):
    """Raise NotAllowed if two places are not a stretch of a run of so many places."""
    if not 0 <= first <= last < many:
        raise NotAllowed("this is not a stretch of the run")


def bounds_of(many, way, first, last):
    """Return (a, b, c, d): the way leads to all stretches (i, j) with a <= i < b and c <= j < d."""
    bounds = {
        "begins": (first, first + 1, first, last),
        "begun": (first, first + 1, last + 1, many),
        "ends": (first + 1, last + 1, last, last + 1),
        "ended": (0, first, last, last + 1),
        "during": (first + 1, last, first + 1, last),
        "around": (0, first, last + 1, many),
        "meets": (last, last + 1, last, many),
        "met": (0, first + 1, first, first + 1),
        "later": (last + 1, many, last + 1, many),
        "earlier": (0, first, 0, first),
        "overlaps": (first + 1, last + 1, last + 1, many),
        "overlapped": (0, first, first, last),
    }
    return bounds[way]


def leads_to(many, way, one, other):
    """Return True if a way leads from a stretch to a pair of integers."""
    a, b, c, d = bounds_of(many, way, one[0], one[1])
    return a <= other[0] < b and c <= other[1] < d and other[0] <= other[1]


def is_pair(value):
    """Return True if a value is a pair of integers."""
    if not isinstance(value, tuple) or len(value) != 2:
        return False
    return isinstance(value[0], int) and isinstance(value[1], int)
