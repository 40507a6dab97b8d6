"""Boards of games: where the choices of two players lead, and what a player can force there."""


class Board:
    """The rooms of a machine, with the rooms to which choices lead.

    Choices are told by numbers: those of the player who chooses first, and
    those of the other one. For each room there is a table with a row for each choice of the first one.
    A target is a list with True for the rooms that are wanted.
    """

    def __init__(self, tables):
        self.tables = tables

    def many(self):
        """Return the number of rooms."""
        return len(self.tables)

    def forced(self, room, is_first, target):
        """Return the choices by which a player gets a room of a target, None if there are none.

        They are one choice if the player is first, otherwise one for each choice of the first one.
        """
        if is_first:
            for number, row in enumerate(self.tables[room]):
                if all([target[after] for after in row]):
                    return [number]
            return None
        found = []
        for row in self.tables[room]:
            good = [number for number, after in enumerate(row) if target[after]]
            if not good:
                return None
            found.append(good[0])
        return found


class Plan:
    """What a player does: for each room in it a rank, and choices as in Board."""

    def __init__(self):
        self.ranks = {}
        self.chosen = {}

    def put(self, room, rank, choices):
        """Put a room into the plan."""
        self.ranks[room] = rank
        self.chosen[room] = choices


def plan_to_hit(board, is_first, hits):
    """Return the plan of the seeker by which a hit comes; ranks are the least numbers of places."""
    plan = Plan()
    rank = 0
    is_new = True
    while is_new:
        rank += 1
        target = [hits[room] or room in plan.ranks for room in range(board.many())]
        is_new = False
        for room in range(board.many()):
            choices = board.forced(room, is_first, target)
            if room not in plan.ranks and choices is not None:
                plan.put(room, rank, choices)
                is_new = True
    return plan


def plan_to_hit_often(board, is_first, hits):
    """Return the plan of the seeker by which hits come again and again."""
    plan = plan_to_hit(board, is_first, hits)
    many = board.many() + 1
    # A hit from which no further one can be forced is none: so it goes on until no more are lost.
    while len(plan.ranks) < many:
        many = len(plan.ranks)
        plan = plan_to_hit(board, is_first, [is_hit and room in plan.ranks for room, is_hit in enumerate(hits)])
    return plan


def plan_to_stay(board, is_first, allowed):
    """Return the plan by which a player stays for ever in rooms that are allowed, or comes to good ones.

    The list `allowed` has 0 for rooms that are not allowed, 1 for those that
    are as long as the player can stay, and 2 for good ones.
    """
    stays = [True] * board.many()
    is_new = True
    while is_new:
        is_new = False
        target = [kind == 2 or kind == 1 and stays[room] for room, kind in enumerate(allowed)]
        for room in range(board.many()):
            if stays[room] and board.forced(room, is_first, target) is None:
                stays[room] = False
                is_new = True
    plan = Plan()
    for room in range(board.many()):
        if stays[room]:
            plan.put(room, 0, board.forced(room, is_first, target))
    return plan


def plan_to_avoid(board, is_first, hits):
    """Return the plan of the avoider by which no hit comes."""
    return plan_to_stay(board, is_first, [0 if is_hit else 1 for is_hit in hits])


def plan_to_avoid_at_last(board, is_first, hits):
    """Return the plan of the avoider by which hits come to an end."""
    plan = Plan()
    rank = 0
    is_new = True
    while is_new:
        allowed = [2 if room in plan.ranks else 0 if is_hit else 1 for room, is_hit in enumerate(hits)]
        wider = plan_to_stay(board, is_first, allowed)
        is_new = False
        for room in sorted(wider.ranks):
            if room not in plan.ranks:
                plan.put(room, rank, wider.chosen[room])
                is_new = True
        rank += 1
    return plan
