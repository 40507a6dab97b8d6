"""Mends of runs, and the runs of a machine that are nearest to a run."""

from spansay.errors import Missing, NotAllowed
from spansay.mends import FAR, Columns, Nearest, Prices, least_deeds
from spansay.overscenes import check_over_scenes
from spansay.scenes import is_scene, scenes_of

MAX_PRICE = 99
MAX_NEAR = 4000


def check_prices(facts, prices):
    """Raise NotAllowed if a triple is not a tuple of prices."""
    put, leave, turns = prices
    if len(turns) != len(facts):
        raise NotAllowed("there is one price for each fact")
    for price in (put, leave) + turns:
        if not 1 <= price <= MAX_PRICE:
            raise NotAllowed(f"prices are from 1 to {MAX_PRICE}")


def is_deed(facts, deed):
    """Return True if a tuple is formed as a deed."""
    if deed == ("stay",) or deed == ("leave",):
        return True
    return len(deed) == 2 and deed[0] in ("turn", "put") and is_scene(facts, deed[1])


def steps_of_mend(facts, run, mend):
    """Return the list of the pairs of an old scene and a new one, None where there is none."""
    steps = []
    place = 0
    for deed in mend:
        if not is_deed(facts, deed):
            raise NotAllowed("there is something in the mend that is no deed")
        if deed[0] == "put":
            steps.append((None, deed[1]))
            continue
        if place == len(run):
            raise NotAllowed("there is no place left")
        old = run[place]
        place += 1
        if deed[0] == "turn" and deed[1] == old:
            raise NotAllowed("a scene is turned into another one")
        if deed[0] == "leave":
            steps.append((old, None))
        else:
            steps.append((old, old if deed[0] == "stay" else deed[1]))
    if place < len(run):
        raise NotAllowed("there are places left")
    if all([new is None for _, new in steps]):
        raise NotAllowed("the new run has no scene")
    return steps


def mended(facts, run, mend):
    """Return the new run of a mend."""
    return tuple([new for _, new in steps_of_mend(facts, run, mend) if new is not None])


def price_of(facts, prices, run, mend):
    """Return the price of a mend."""
    put, leave, turns = prices
    total = 0
    for old, new in steps_of_mend(facts, run, mend):
        if old is None:
            total += put
        elif new is None:
            total += leave
        else:
            total += sum([price for fact, price in zip(facts, turns) if (fact in old) != (fact in new)])
    return total


def columns_of(facts, prices, run, machine):
    """Return the columns of a run and a machine over the scenes."""
    check_over_scenes(facts, machine)
    return Columns(Prices(facts, prices), [machine[0].index(scene) for scene in run], machine)


def distance_by(columns):
    """Return the distance; raise Missing if the machine lets by no run."""
    least = columns.distance()
    if least >= FAR:
        raise Missing("the machine lets by no run")
    return least


def distance(facts, prices, run, machine):
    """Return the distance of a run from a machine."""
    return distance_by(columns_of(facts, prices, run, machine))


def deed_told(scenes, old, is_used, new):
    """Return the deed that uses up a place with an old scene, or none, and makes a new one, or none."""
    if not is_used:
        return ("put", scenes[new])
    if new is None:
        return ("leave",)
    return ("stay",) if new == old else ("turn", scenes[new])


def first_nearest(facts, prices, run, machine):
    """Return the first of the nearest runs, and a mend that leads to it with the least price."""
    columns = columns_of(facts, prices, run, machine)
    row = Nearest(columns, distance_by(columns), MAX_NEAR).first()
    scenes = scenes_of(facts)
    mend = []
    place = 0
    for is_used, new in least_deeds(columns.prices, columns.run, row):
        old = columns.run[place] if is_used else None
        place += 1 if is_used else 0
        mend.append(deed_told(scenes, old, is_used, new))
    return (tuple([scenes[scene] for scene in row]), tuple(mend))


def count_nearest(facts, prices, run, machine):
    """Return the number of the nearest runs."""
    columns = columns_of(facts, prices, run, machine)
    return Nearest(columns, distance_by(columns), MAX_NEAR).how_many()
