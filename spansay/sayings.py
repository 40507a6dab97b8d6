"""Sayings: which tuples they are, and what stands in them."""

from spansay.errors import NotAllowed
from spansay.scenes import WAYS

MAX_NODES = 30


def has_form(facts, node):
    """Return True if a value is formed as a node is, whatever its parts are."""
    if not isinstance(node, tuple) or not node:
        return False
    word = node[0]
    if word == "point":
        return len(node) == 1
    if word == "fact":
        return len(node) == 2 and node[1] in facts
    if word == "not":
        return len(node) == 2
    if word == "and" or word == "or":
        return len(node) == 3
    if word == "some" or word == "all":
        return len(node) == 3 and node[1] in WAYS
    return False


def parts_of(saying):
    """Return the tuple of the sayings that stand directly within a saying."""
    word = saying[0]
    if word == "point" or word == "fact":
        return ()
    if word == "some" or word == "all":
        return saying[2:]
    return saying[1:]


def check_saying(facts, saying):
    """Raise NotAllowed if a value made of texts and tuples is not a saying."""
    # A value may hold one tuple so often that it can never be gone through:
    # its nodes are counted as they are met, and the first one too many ends it.
    waiting = [saying]
    many = 0
    while waiting:
        node = waiting.pop()
        many += 1
        if many > MAX_NODES:
            raise NotAllowed(f"a saying has at most {MAX_NODES} nodes")
        if not has_form(facts, node):
            raise NotAllowed("this is not a saying over these facts")
        waiting.extend(parts_of(node))


def parts_in_order(saying):
    """Return the list of all parts of a saying, each one behind those within it."""
    parts = []
    for part in parts_of(saying):
        parts.extend(parts_in_order(part))
    parts.append(saying)
    return parts


def parts_and_places(saying):
    """Return the list of pairs of a part, in order, and the places of those directly within it."""
    rows = []
    free = []
    for place, part in enumerate(parts_in_order(saying)):
        ahead = len(free) - len(parts_of(part))
        rows.append((part, tuple(free[ahead:])))
        free = free[:ahead] + [place]
    return rows


def count_nodes(saying):
    """Return the number of the nodes of a saying."""
    return len(parts_in_order(saying))


def depth_of(saying):
    """Return the depth of a saying: how many ways stand within one another."""
    depth = max([depth_of(part) for part in parts_of(saying)], default=0)
    return depth + 1 if saying[0] == "some" or saying[0] == "all" else depth


def ways_in(saying):
    """Return the tuple of the ways in a saying, each once, in the order of WAYS."""
    found = {}
    for part in parts_in_order(saying):
        if part[0] == "some" or part[0] == "all":
            found[part[1]] = True
    return tuple([way for way in WAYS if way in found])
