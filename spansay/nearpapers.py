"""Bounds of the prices of mends: papers that show that no nearer run is let by."""

from spansay.errors import BadPaper, NotAllowed
from spansay.machines import lets_of
from spansay.mends import FAR
from spansay.near import columns_of, distance_by, mended, price_of
from spansay.overscenes import check_over_scenes


def last_bounds(columns):
    """Return the least prices to come to a room that lets by where no place is left, for each stand."""
    column = [0 if is_let else FAR for is_let in columns.lets] + [FAR]
    return with_puts_to(columns, column)


def with_puts_to(columns, column):
    """Return the prices to come on from each stand, also by deeds that put scenes in at first."""
    column = list(column)
    is_new = True
    while is_new:
        is_new = False
        for stand, row in enumerate(columns.rows):
            price = columns.prices.put + min([column[after] for after in row])
            if price < column[stand]:
                column[stand] = price
                is_new = True
    return column


def bounds_ahead(columns, old, column):
    """Return the least prices to come on from each stand one place ahead, which has the scene `old`."""
    turn = columns.prices.turn[old]
    coming = []
    for stand, row in enumerate(columns.rows):
        made = min([turn[scene] + column[after] for scene, after in enumerate(row)])
        coming.append(min(made, columns.prices.leave + column[stand]))
    return with_puts_to(columns, coming)


def bounds_of(facts, prices, run, machine):
    """Return sound bounds in which the number of `nothing yet` at no place is the distance."""
    columns = columns_of(facts, prices, run, machine)
    most = distance_by(columns)
    rows = [last_bounds(columns)]
    for old in reversed(columns.run):
        rows.append(bounds_ahead(columns, old, rows[-1]))
    # Bounds stay sound where all numbers above some number become this number.
    return tuple([tuple([min(price, most) for price in row]) for row in reversed(rows)])


def check_puts(columns, row):
    """Raise BadPaper if a deed that puts a scene in lets the bounds of a row fall by more than its price."""
    for stand, after in enumerate(columns.rows):
        if row[stand] > columns.prices.put + min([row[room] for room in after]):
            raise BadPaper("a bound falls by more than the price of putting a scene in")


def check_place(columns, old, row, coming):
    """Raise BadPaper if a deed that uses up a place lets the bounds fall by more than its price."""
    turn = columns.prices.turn[old]
    for stand, after in enumerate(columns.rows):
        made = min([turn[scene] + coming[room] for scene, room in enumerate(after)])
        if row[stand] > made or row[stand] > columns.prices.leave + coming[stand]:
            raise BadPaper("a bound falls by more than the price of a deed that uses up a place")


def check_bounds(columns, bounds):
    """Raise BadPaper if a tuple of tuples of integers is not sound bounds."""
    if len(bounds) != len(columns.run) + 1:
        raise BadPaper("there is not one row of bounds for each number of places")
    if not all([len(row) == len(columns.rows) for row in bounds]):
        raise BadPaper("there is not one bound for each stand")
    if any([is_let and bound > 0 for is_let, bound in zip(columns.lets, bounds[-1])]):
        raise BadPaper("a bound of a room that lets by is above 0 where no place is left")
    for row in bounds:
        check_puts(columns, row)
    for old, row, coming in zip(columns.run, bounds, bounds[1:]):
        check_place(columns, old, row, coming)


def check_mend(facts, prices, run, machine, price, mend):
    """Raise BadPaper if a mend has not a price, or does not lead to a run that a machine lets by."""
    try:
        new = mended(facts, run, mend)
    except NotAllowed:
        raise BadPaper("this is no mend of the run")
    room = 0
    for scene in new:
        room = machine[1][room][machine[0].index(scene)]
    if not lets_of(machine)[room] or price_of(facts, prices, run, mend) != price:
        raise BadPaper("the mend has another price, or the machine does not let its new run by")


def judge_nearest(facts, prices, run, machine, price, mend, bounds):
    """Raise BadPaper if a mend and bounds do not show that a price is the distance."""
    check_over_scenes(facts, machine)
    check_mend(facts, prices, run, machine, price, mend)
    check_bounds(columns_of(facts, prices, run, machine), bounds)
    if bounds[0][-1] < price:
        raise BadPaper("the bounds allow a lesser price")
