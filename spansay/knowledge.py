"""Who wins if the builder does not see all: papers about what can be known."""

from spansay.boards import Board
from spansay.errors import BadPaper, NotAllowed
from spansay.games import other_player, plan_of, seeker_of
from spansay.glances import Glances
from spansay.least import machine_of
from spansay.machines import are_rooms
from spansay.overscenes import check_over_scenes
from spansay.positions import FIRST, OVER, Known, Positions, told_position
from spansay.sights import AIMS, check_sight

MAX_POSITIONS = 600


def check_aim(sight):
    """Raise NotAllowed if what can be known is not told for the goal of a sight."""
    if sight[3] not in AIMS:
        raise NotAllowed("what can be known does not tell who wins for this goal")


def known_of(facts, sight, machine):
    """Return the positions that can come up for a sight."""
    glances = Glances(facts, sight)
    return Known(glances, Positions(glances, machine, sight[3]), MAX_POSITIONS)


def count_positions(facts, sight, machine):
    """Return the number of the positions that can come up."""
    check_sight(facts, sight)
    check_over_scenes(facts, machine)
    check_aim(sight)
    return len(known_of(facts, sight, machine).met)


def hits_of_known(known, goal):
    """Return the list of the positions that the seeker wants to come: OVER, or those where nothing is owing."""
    hits = [goal == "often" and position[1] == 0 for position in known.met]
    return hits + [goal != "often"]


def solve_sight(facts, sight, saying):
    """Return the player who has a right paper, the machine of a saying, and such a paper."""
    check_sight(facts, sight)
    check_aim(sight)
    machine = machine_of(facts, saying)
    own, _, first, goal = sight
    known = known_of(facts, sight, machine)
    board = Board(known.tables_first())
    hits = hits_of_known(known, goal)
    # The play of positions is a game: only what is chosen and what is seen count.
    game = (own, first, goal)
    player = seeker_of(game)
    plan = plan_of(game, board, hits, player)
    if 0 not in plan.ranks:
        player = other_player(player)
        plan = plan_of(game, board, hits, player)
    chosen = known.glances.choices if player == "builder" else known.glances.glimpses
    paper = []
    for number, position in enumerate(known.met):
        if number in plan.ranks:
            choices = tuple([chosen[choice] for choice in plan.chosen[number]])
            paper.append((told_position(position), plan.ranks[number], choices))
    return (player, machine, tuple(paper))


def bits_of_rooms(rooms):
    """Return the bits of some rooms."""
    return sum([1 << room for room in rooms])


class KnownRules:
    """What a paper about what can be known has to be like."""

    def __init__(self, facts, sight, machine, player):
        self.glances = Glances(facts, sight)
        self.goal = sight[3]
        self.positions = Positions(self.glances, machine, self.goal)
        self.many = len(machine[1])
        self.is_builder = player == "builder"
        self.is_first = player == sight[2]
        self.choices = self.glances.choices if self.is_builder else self.glances.glimpses
        self.others = self.glances.glimpses if self.is_builder else self.glances.choices

    def position(self, value):
        """Return the position that a pair of tuples of integers tells."""
        rooms, owing = value
        if not rooms or not are_rooms(rooms, self.many) or not are_rooms(owing, self.many):
            raise BadPaper("a position has rooms of the machine, ascending")
        if not all([room in rooms for room in owing]) or owing and self.goal != "often":
            raise BadPaper("what is owing are some of the rooms, and only for one goal")
        return (bits_of_rooms(rooms), bits_of_rooms(owing))

    def after(self, position, choices):
        """Return the list of what comes behind a position by the player's choices, for each of the other one."""
        if len(choices) != (1 if self.is_first else len(self.others)):
            raise BadPaper("there is not the due number of choices or glimpses")
        if not all([choice in self.choices for choice in choices]):
            raise BadPaper("this is no choice, or no glimpse")
        coming = []
        for other in range(len(self.others)):
            mine = self.choices.index(choices[0 if self.is_first else other])
            if self.is_builder:
                coming.append(self.positions.behind(position, mine, other))
            else:
                coming.append(self.positions.behind(position, other, mine))
        return coming

    def is_right(self, rank, after, ranks):
        """Return True if this may come behind a triple with a rank, with the ranks of the paper."""
        is_there = after in ranks
        is_less = is_there and ranks[after] < rank
        if self.goal == "often":
            if self.is_builder:
                return is_there and (after[1] == 0 or is_less)
            return is_there and (is_less or after[1] != 0 and ranks[after] == rank)
        # OVER is what the breaker wants for one of these goals, and the builder for the other one.
        if self.is_builder == (self.goal == "once"):
            return after == OVER or is_less
        return is_there


def judged_plan(facts, sight, machine, player, paper):
    """Return the dict of the choices of the positions of a right paper; raise BadPaper for another one."""
    rules = KnownRules(facts, sight, machine, player)
    ranks = {}
    chosen = {}
    for value, rank, choices in paper:
        position = rules.position(value)
        if position in ranks or rank < 0:
            raise BadPaper("a position is there twice, or its rank is below 0")
        ranks[position] = rank
        chosen[position] = choices
    if FIRST not in ranks:
        raise BadPaper("the first position is not there")
    for position, rank in ranks.items():
        for after in rules.after(position, chosen[position]):
            if not rules.is_right(rank, after, ranks):
                raise BadPaper("what may come is not what the goal asks for")
    return chosen


def judge_sight(facts, sight, machine, player, paper):
    """Raise BadPaper if a paper is not a right one of a player."""
    check_sight(facts, sight)
    check_over_scenes(facts, machine)
    check_aim(sight)
    judged_plan(facts, sight, machine, player, paper)
