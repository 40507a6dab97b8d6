"""Games in which a builder and a breaker make a run for a saying."""

from spansay.boards import Board, plan_to_avoid, plan_to_avoid_at_last, plan_to_hit, plan_to_hit_often
from spansay.errors import BadPaper, Missing, NotAllowed
from spansay.least import machine_of
from spansay.machines import lets_of
from spansay.overscenes import check_over_scenes
from spansay.scenes import is_scene, scenes_of

GOALS = ("always", "once", "often", "lastly")
PLAYERS = ("builder", "breaker")
# The goals for which the builder wants the run to be kept: hits are kept runs, and the builder seeks them.
BUILDER_SEEKS = ("once", "often")
# The goals at which one hit is enough.
AT_ONCE = ("always", "once")


def check_game(facts, game):
    """Raise NotAllowed if a triple is not a game."""
    own, first, goal = game
    if not is_scene(facts, own):
        raise NotAllowed("the builder's facts are some of the facts, in their order")
    if first not in PLAYERS:
        raise NotAllowed("the first one is a player")
    if goal not in GOALS:
        raise NotAllowed("there is no such goal")


def choices_of(facts, game, player):
    """Return the list of the choices of a player."""
    own = game[0]
    return scenes_of(tuple([fact for fact in facts if (fact in own) == (player == "builder")]))


def other_player(player):
    """Return the other one of both players."""
    return "breaker" if player == "builder" else "builder"


def seeker_of(game):
    """Return the player who wants hits to come."""
    return "builder" if game[2] in BUILDER_SEEKS else "breaker"


def hits_of(game, machine):
    """Return the list that has for each room whether it is a hit."""
    return [is_let == (game[2] in BUILDER_SEEKS) for is_let in lets_of(machine)]


def bits_of(facts, choices):
    """Return the list of the numbers, as scenes, of some choices."""
    return [sum([1 << facts.index(fact) for fact in choice]) for choice in choices]


def board_of(facts, game, machine):
    """Return the board of a game with a machine."""
    first = game[1]
    firsts = bits_of(facts, choices_of(facts, game, first))
    seconds = bits_of(facts, choices_of(facts, game, other_player(first)))
    # Choices are bits of scenes here: those of both players together are a scene's number.
    return Board([[[row[one + other] for other in seconds] for one in firsts] for row in machine[1]])


def plan_of(game, board, hits, player):
    """Return the plan of a player, with all rooms of a board from which this player wins."""
    is_first = player == game[1]
    if player == seeker_of(game):
        if game[2] in AT_ONCE:
            return plan_to_hit(board, is_first, hits)
        return plan_to_hit_often(board, is_first, hits)
    if game[2] in AT_ONCE:
        return plan_to_avoid(board, is_first, hits)
    return plan_to_avoid_at_last(board, is_first, hits)


def paper_of_plan(plan, choices):
    """Return the paper of a plan, with the choices of the player."""
    rows = []
    for room in sorted(plan.ranks):
        chosen = tuple([choices[number] for number in plan.chosen[room]])
        rows.append((room, plan.ranks[room], chosen))
    return tuple(rows)


def solve(facts, game, saying):
    """Return the player who wins a game for a saying, the machine of the saying, and a right paper."""
    check_game(facts, game)
    machine = machine_of(facts, saying)
    board = board_of(facts, game, machine)
    player = seeker_of(game)
    plan = plan_of(game, board, hits_of(game, machine), player)
    if 0 not in plan.ranks:
        player = other_player(player)
        plan = plan_of(game, board, hits_of(game, machine), player)
    return (player, machine, paper_of_plan(plan, choices_of(facts, game, player)))


class Rules:
    """What a paper of a player has to be like."""

    def __init__(self, facts, game, machine, player):
        self.machine = machine
        self.hits = hits_of(game, machine)
        self.is_seeker = player == seeker_of(game)
        self.is_at_once = game[2] in AT_ONCE
        self.is_first = player == game[1]
        self.choices = choices_of(facts, game, player)
        self.bits = bits_of(facts, self.choices)
        self.others = bits_of(facts, choices_of(facts, game, other_player(player)))

    def rooms_behind(self, room, choices):
        """Return the list of the rooms behind the choices of a triple, for all of the other player."""
        if len(choices) != (1 if self.is_first else len(self.others)):
            raise BadPaper("there is not the due number of choices")
        rooms = []
        for at, other in enumerate(self.others):
            choice = choices[0 if self.is_first else at]
            if choice not in self.choices:
                raise BadPaper("this is no choice of the player")
            rooms.append(self.machine[1][room][self.bits[self.choices.index(choice)] + other])
        return rooms

    def is_right(self, rank, after, ranks):
        """Return True if a room may come behind a triple with a rank, with the ranks of the paper."""
        is_hit = self.hits[after]
        if self.is_at_once and self.is_seeker:
            return is_hit or after in ranks and ranks[after] < rank
        if after not in ranks:
            return False
        if self.is_at_once:
            return not is_hit
        if self.is_seeker:
            return is_hit or ranks[after] < rank
        return ranks[after] < rank if is_hit else ranks[after] <= rank


def ranks_of(paper, many):
    """Return the dict of the ranks of the rooms in a paper, for a machine of so many rooms."""
    ranks = {}
    for room, rank, _ in paper:
        if not 0 <= room < many or room in ranks or rank < 0:
            raise BadPaper("there is no such room, or it is there twice, or its rank is below 0")
        ranks[room] = rank
    if 0 not in ranks:
        raise BadPaper("the room 0 is not there")
    return ranks


def judge_win(facts, game, machine, player, paper):
    """Raise BadPaper if a paper is not a right one of a player."""
    check_game(facts, game)
    check_over_scenes(facts, machine)
    ranks = ranks_of(paper, len(machine[1]))
    rules = Rules(facts, game, machine, player)
    for room, rank, choices in paper:
        for after in rules.rooms_behind(room, choices):
            if not rules.is_right(rank, after, ranks):
                raise BadPaper("a room that may come is not what the goal asks for")


def least_places(facts, game, saying):
    """Return the least number of places behind which a hit has come, whatever the avoider chooses."""
    check_game(facts, game)
    if game[2] not in AT_ONCE:
        raise NotAllowed("with this goal one hit is not enough")
    machine = machine_of(facts, saying)
    plan = plan_of(game, board_of(facts, game, machine), hits_of(game, machine), seeker_of(game))
    if 0 not in plan.ranks:
        raise Missing("the avoider wins the game")
    return plan.ranks[0]
