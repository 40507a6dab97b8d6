"""Marks, marked runs, and the blocks in which the zones of two stretches stand."""

from spansay.scenes import scenes_of

BLOCKS = {
    "begins": ((0, 0, "any"), (1, 1, "more"), (1, 2, "more"), (2, 2, "any")),
    "begun": ((0, 0, "any"), (1, 1, "more"), (2, 1, "more"), (2, 2, "any")),
    "ends": ((0, 0, "any"), (1, 0, "more"), (1, 1, "more"), (2, 2, "any")),
    "ended": ((0, 0, "any"), (0, 1, "more"), (1, 1, "more"), (2, 2, "any")),
    "during": ((0, 0, "any"), (1, 0, "more"), (1, 1, "more"), (1, 2, "more"), (2, 2, "any")),
    "around": ((0, 0, "any"), (0, 1, "more"), (1, 1, "more"), (2, 1, "more"), (2, 2, "any")),
    "meets": ((0, 0, "any"), (1, 0, "any"), (1, 1, "one"), (2, 1, "any"), (2, 2, "any")),
    "met": ((0, 0, "any"), (0, 1, "any"), (1, 1, "one"), (1, 2, "any"), (2, 2, "any")),
    "later": ((0, 0, "any"), (1, 0, "more"), (2, 0, "any"), (2, 1, "more"), (2, 2, "any")),
    "earlier": ((0, 0, "any"), (0, 1, "more"), (0, 2, "any"), (1, 2, "more"), (2, 2, "any")),
    "overlaps": ((0, 0, "any"), (1, 0, "more"), (1, 1, "more"), (2, 1, "more"), (2, 2, "any")),
    "overlapped": ((0, 0, "any"), (0, 1, "more"), (1, 1, "more"), (1, 2, "more"), (2, 2, "any")),
}


def marks_of(facts):
    """Return the tuple of the marks of facts."""
    return tuple([(scene, zone) for scene in scenes_of(facts) for zone in range(3)])


def zone_of(place, first, last):
    """Return the zone of a place by a stretch."""
    if place < first:
        return 0
    return 1 if place <= last else 2


def marked(run, first, last):
    """Return the marked run of a run and a stretch of it."""
    return tuple([(scene, zone_of(place, first, last)) for place, scene in enumerate(run)])


def blocks_of(way):
    """Return the tuple of the blocks of a way."""
    return BLOCKS[way]


def are_any(blocks):
    """Return True if no place has to stand in any of these blocks."""
    return all(block[2] == "any" for block in blocks)


def next_blocks(way, at):
    """Return the list of the blocks in which a place may stand behind one in the block `at`."""
    blocks = blocks_of(way)
    coming = []
    if at >= 0 and blocks[at][2] != "one":
        coming.append(at)
    for block in range(at + 1, len(blocks)):
        if are_any(blocks[at + 1:block]):
            coming.append(block)
    return coming


def may_end(way, at):
    """Return True if the last place may stand in the block `at`."""
    return are_any(blocks_of(way)[at + 1:])
