"""Equations: as many as there are unknown numbers, over the integers."""

from spansay.ratios import lowest


def without_first_unknowns(rows):
    """Return rows like these, in which each one lacks the unknown numbers ahead of its own.

    All numbers stay integers: what each division divides by is a factor of all of a row.
    The unknown numbers are such that no row has 0 in its own place.
    """
    rows = list(rows)
    before = 1
    for at in range(len(rows)):
        pivot = rows[at][at]
        for below in range(at + 1, len(rows)):
            factor = rows[below][at]
            rows[below] = [(pivot * one - factor * other) // before for one, other in zip(rows[below], rows[at])]
        before = pivot
    return rows


def solved(rows):
    """Return the list of the unknown numbers, as ratios.

    A row is a list of the factors of the unknown numbers, and of their sum behind these.
    """
    if not rows:
        return []
    rows = without_first_unknowns(rows)
    many = len(rows)
    whole = rows[-1][many - 1]
    # All unknown numbers become integers if they are multiplied by the last pivot.
    found = [0] * many
    for at in range(many - 1, -1, -1):
        known = sum([rows[at][later] * found[later] for later in range(at + 1, many)])
        found[at] = (whole * rows[at][many] - known) // rows[at][at]
    return [lowest(value, whole) for value in found]
