"""Chances that a gamble ever leads to goals, with papers that show them."""

from spansay.chances import draws_of
from spansay.errors import BadPaper, NotAllowed
from spansay.gambles import ALL, NOTHING
from spansay.machines import are_rooms, lets_of
from spansay.outlooks import Outlook, mean_behind
from spansay.overscenes import check_over_scenes
from spansay.ratios import compare, is_ratio
from spansay.rests import rooms_ahead


def settled_rooms(machine, well):
    """Return the ascending tuple of the rooms that are settled well (well is True), or badly."""
    lets = lets_of(machine)
    settled = []
    for room in range(len(lets)):
        if all([lets[after] == well for after in [room] + rooms_ahead(machine[1], room)]):
            settled.append(room)
    return tuple(settled)


def draws_to(facts, gamble, machine, goals):
    """Return the draws of a gamble, and the list that has for each pair True if its room is a goal."""
    check_over_scenes(facts, machine)
    if not are_rooms(goals, len(machine[1])):
        raise NotAllowed("goals are rooms of the machine, ascending")
    draws = draws_of(facts, gamble, machine)
    return draws, [room in goals for _, room in draws.pairs]


def chance_ever(facts, gamble, machine, goals, is_greatest):
    """Return the greatest chance ever, or the least one, and the paper of the gamble."""
    draws, is_goal = draws_to(facts, gamble, machine, goals)
    outlook = Outlook(draws, is_goal, is_greatest)
    paper = []
    for number, (state, room) in enumerate(draws.pairs):
        rank = outlook.ranks[number]
        paper.append((state, room, outlook.worths[number], outlook.choices[number], 0 if rank is None else rank))
    return (mean_behind(draws.starts, outlook.worths), tuple(paper))


def greatest_ever(facts, gamble, machine, goals):
    """Return the greatest chance ever and the paper of the gamble."""
    return chance_ever(facts, gamble, machine, goals, True)


def least_ever(facts, gamble, machine, goals):
    """Return the least chance ever and the paper of the gamble."""
    return chance_ever(facts, gamble, machine, goals, False)


def check_line(line, lots):
    """Raise BadPaper if the value, the choice or the rank of a line cannot stand there."""
    _, _, value, choice, rank = line
    if not is_ratio(value) or compare(value, NOTHING) < 0 or compare(value, ALL) > 0:
        raise BadPaper("a value is a ratio from 0 to 1")
    if not 0 <= choice < len(lots) or rank < 0:
        raise BadPaper("there is no such option, or a rank is below 0")


def leads_down(lot, paper, rank):
    """Return True if a pair with a value above 0 and a rank that is less is behind a lot."""
    return any([paper[after][2] != NOTHING and paper[after][4] < rank for after, _ in lot])


def check_value(line, lots, paper, is_greatest):
    """Raise BadPaper if the value of a line that is no goal is not shown by those behind it."""
    _, _, value, choice, rank = line
    means = [mean_behind(lot, [other[2] for other in paper]) for lot in lots]
    if means[choice] != value:
        raise BadPaper("a value is not the mean behind the choice")
    better = 1 if is_greatest else -1
    if any([compare(mean, value) == better for mean in means]):
        raise BadPaper("there is a better option")
    if value != NOTHING:
        needed = [lots[choice]] if is_greatest else lots
        if not all([leads_down(lot, paper, rank) for lot in needed]):
            raise BadPaper("no pair with a lesser rank is behind an option")


def judge_ever(facts, gamble, machine, goals, paper, is_greatest):
    """Raise BadPaper if a paper for the greatest chance ever, or the least one, is not right."""
    draws, is_goal = draws_to(facts, gamble, machine, goals)
    if [(line[0], line[1]) for line in paper] != draws.pairs:
        raise BadPaper("there is not one line for each pair that is met, ascending")
    for line, lots in zip(paper, draws.options):
        check_line(line, lots)
    for line, lots, goal in zip(paper, draws.options, is_goal):
        if not goal:
            check_value(line, lots, paper, is_greatest)
        elif line[2] != ALL:
            raise BadPaper("the value of a goal is 1")


def judge_greatest(facts, gamble, machine, goals, paper):
    """Raise BadPaper if a paper for the greatest chance ever is not right."""
    judge_ever(facts, gamble, machine, goals, paper, True)


def judge_least(facts, gamble, machine, goals, paper):
    """Raise BadPaper if a paper for the least chance ever is not right."""
    judge_ever(facts, gamble, machine, goals, paper, False)


def chance_of(facts, gamble, machine, paper):
    """Return the mean of the starts of the values of a right paper."""
    draws = draws_of(facts, gamble, machine)
    return mean_behind(draws.starts, [line[2] for line in paper])
