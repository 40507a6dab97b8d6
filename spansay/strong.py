"""Which points of a picture of arrows lead to one another.

A point is a number, and `after` is the list that has for each point the list of
the points to which arrows lead from it.
"""


def finished_order(after):
    """Return the list of all points, each behind those first come to from it."""
    is_met = [False] * len(after)
    order = []
    for start in range(len(after)):
        if is_met[start]:
            continue
        is_met[start] = True
        way = [(start, 0)]
        while way:
            point, at = way.pop()
            if at == len(after[point]):
                order.append(point)
                continue
            way.append((point, at + 1))
            coming = after[point][at]
            if not is_met[coming]:
                is_met[coming] = True
                way.append((coming, 0))
    return order


def turned_arrows(after):
    """Return the list that has for each point the list of the points from which arrows lead to it."""
    ahead = [[] for _ in after]
    for point, row in enumerate(after):
        for coming in row:
            ahead[coming].append(point)
    return ahead


def marks_together(after):
    """Return the list that has for each point a number, the same for points that lead to one another."""
    ahead = turned_arrows(after)
    marks = [None] * len(after)
    # Points that finish last are gone back from first: so what is come to leads there, too.
    for mark, start in enumerate(reversed(finished_order(after))):
        waiting = [start] if marks[start] is None else []
        while waiting:
            point = waiting.pop()
            if marks[point] is None:
                marks[point] = mark
                waiting.extend(ahead[point])
    return marks


def are_on_rounds(after):
    """Return the list that has for each point True if one arrow or more lead from it back to it."""
    marks = marks_together(after)
    return [
        any([marks[coming] == marks[point] for coming in row])
        for point, row in enumerate(after)
    ]
