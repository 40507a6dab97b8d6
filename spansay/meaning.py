"""Where ways lead, and of which stretches of a run sayings hold."""

from spansay.spans import bounds_of, check_stretch
from spansay.truths import truth_of


def reached(many, way, first, last):
    """Return the list of the stretches to which a way leads, in order."""
    check_stretch(many, first, last)
    a, b, c, d = bounds_of(many, way, first, last)
    return [(i, j) for i in range(a, b) for j in range(max(i, c), d)]


def holds(run, saying, first, last):
    """Return True if a saying holds of a stretch of a run."""
    check_stretch(len(run), first, last)
    return truth_of(run, saying).is_true((first, last))


def keeps(run, saying):
    """Return True if a saying holds of the stretch of all places of a run."""
    return truth_of(run, saying).is_true((0, len(run) - 1))
