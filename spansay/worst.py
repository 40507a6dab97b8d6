"""The greatest distance of the runs of a machine from another machine."""

from spansay.covers import bounded
from spansay.mends import Columns, Prices
from spansay.vectors import Vectors

MAX_VECTORS = 3000


def worst(facts, prices, first, second):
    """Return the greatest distance and the first run with it, None if distances are not bounded."""
    if bounded(facts, first, second)[0] == "not":
        return None
    columns = Columns(Prices(facts, prices), (), second)
    # Each cap is the distance of some run: so pairs are never told apart that the greatest one does not.
    cap = 0
    vectors = Vectors(columns, first, cap, MAX_VECTORS)
    while vectors.greatest() > cap:
        cap = vectors.greatest()
        vectors = Vectors(columns, first, cap, MAX_VECTORS)
    return (cap, tuple([first[0][scene] for scene in vectors.first_with(cap)]))
