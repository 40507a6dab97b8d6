"""games.py: [10.1] to [10.5]."""

import itertools
import random
import unittest

from spansay.errors import BadPaper, Missing, NotAllowed, TooLarge
from spansay.games import GOALS, PLAYERS, check_game, choices_of, judge_win, least_places, solve
from spansay.least import machine_of
from spansay.sayingtexts import read_saying
from tests import naive
from tests.test_takers import BEYOND_THE_BOUNDS, FACTS as THREE_FACTS

FACTS = ("on", "up")
ON, UP, POINT = ("fact", "on"), ("fact", "up"), ("point",)
SAME = ("or", ("and", ON, UP), ("and", ("not", ON), ("not", UP)))
LAST_SAME = ("all", "ends", ("or", ("not", POINT), SAME))


def others(player):
    return PLAYERS[1 - PLAYERS.index(player)]


def naive_choices(facts, game, player):
    mine = tuple(fact for fact in facts if (fact in game[0]) == (player == "builder"))
    return naive.scenes(mine)


def scene_of(facts, one, other):
    return tuple(fact for fact in facts if fact in one or fact in other)


def behind(facts, machine, room, one, other):
    return machine[1][room][machine[0].index(scene_of(facts, one, other))]


def strategies(facts, game, machine, player):
    """All ways to choose by the room alone: dicts from (room, choice of the other one) to a choice."""
    mine, theirs = naive_choices(facts, game, player), naive_choices(facts, game, others(player))
    rooms = range(len(machine[1]))
    if game[1] == player:
        for chosen in itertools.product(mine, repeat=len(rooms)):
            yield {(room, other): chosen[room] for room in rooms for other in theirs}
    else:
        keys = list(itertools.product(rooms, theirs))
        for chosen in itertools.product(mine, repeat=len(keys)):
            yield dict(zip(keys, chosen))


def graph_of(facts, game, machine, player, strategy):
    """The rooms that come behind each room if the player chooses so."""
    theirs = naive_choices(facts, game, others(player))
    return [
        {behind(facts, machine, room, strategy[room, other], other) for other in theirs}
        for room in range(len(machine[1]))
    ]


def reached_by(graph, starts):
    found = set(starts)
    while True:
        wider = found | {after for room in found for after in graph[room]}
        if wider == found:
            return found
        found = wider


def on_cycles(graph, rooms):
    """The rooms of some rooms that are on a cycle through these rooms alone."""
    inner = [{after for after in graph[room] if after in rooms} if room in rooms else set() for room in range(len(graph))]
    return {room for room in rooms if room in reached_by(inner, inner[room])}


def builder_wins_by(graph, goal, lets):
    """Whether the builder wins each play through a graph, from the room 0 on."""
    came = reached_by(graph, graph[0])
    other = {room for room in range(len(graph)) if room not in lets}
    if goal == "always":
        return not came & other
    if goal == "once":
        inner = [{after for after in graph[room] if after in other} for room in range(len(graph))]
        return not on_cycles(inner, reached_by(inner, inner[0]))
    if goal == "often":
        return not on_cycles(graph, came & other)
    return not on_cycles(graph, came) & other


def winner(facts, game, machine):
    """The one who wins, by trying all ways of the builder to choose by the room alone."""
    for strategy in strategies(facts, game, machine, "builder"):
        if builder_wins_by(graph_of(facts, game, machine, "builder", strategy), game[2], machine[2]):
            return "builder"
    return "breaker"


def is_right(facts, game, machine, player, paper):
    """[10.4], word by word."""
    own, first, goal = game
    mine, theirs = naive_choices(facts, game, player), naive_choices(facts, game, others(player))
    is_let_hit = goal in ("once", "often")
    hits = [room for room in range(len(machine[1])) if (room in machine[2]) == is_let_hit]
    is_seeker = (player == "builder") == is_let_hit
    rooms = [room for room, _, _ in paper]
    if len(set(rooms)) < len(rooms) or 0 not in rooms:
        return False
    ranks = {room: rank for room, rank, _ in paper}
    for room, rank, choices in paper:
        if not 0 <= room < len(machine[1]) or rank < 0 or any(choice not in mine for choice in choices):
            return False
        if len(choices) != (1 if player == first else len(theirs)):
            return False
        for k, other in enumerate(theirs):
            after = behind(facts, machine, room, choices[0 if player == first else k], other)
            there, is_hit = after in ranks, after in hits
            if goal in ("always", "once"):
                right = is_hit or (there and ranks[after] < rank) if is_seeker else there and not is_hit
            elif is_seeker:
                right = there and (is_hit or ranks[after] < rank)
            else:
                right = there and ranks[after] <= rank and (not is_hit or ranks[after] < rank)
            if not right:
                return False
    return True


def random_game(rng, facts):
    return (tuple(fact for fact in facts if rng.random() < 0.5), rng.choice(PLAYERS), rng.choice(GOALS))


def random_machine(rng, facts, many):
    letters = tuple(naive.scenes(facts))
    rows = tuple(tuple(rng.randrange(many) for _ in letters) for _ in range(many))
    return (letters, rows, tuple(at for at in range(many) if rng.random() < 0.5))


class CheckTest(unittest.TestCase):
    def test_tuples(self):
        self.assertEqual(GOALS, ("always", "once", "often", "lastly"))
        self.assertEqual(PLAYERS, ("builder", "breaker"))

    def test_games(self):
        for own in ((), ("on",), ("up",), ("on", "up")):
            for first in PLAYERS:
                for goal in GOALS:
                    self.assertIsNone(check_game(FACTS, (own, first, goal)))
        for game in (
            (("up", "on"), "builder", "once"), (("x",), "builder", "once"), (("on", "on"), "builder", "once"),
            (("",), "builder", "once"), ((), "seeker", "once"), ((), "", "once"), ((), "once", "builder"),
            ((), "builder", "never"), ((), "builder", ""), ((), "Builder", "once"),
        ):
            with self.assertRaises(NotAllowed):
                check_game(FACTS, game)

    def test_choices_in_order(self):
        game = (("on",), "breaker", "always")
        self.assertEqual(choices_of(FACTS, game, "breaker"), [(), ("up",)])
        self.assertEqual(choices_of(FACTS, game, "builder"), [(), ("on",)])
        self.assertEqual(choices_of(FACTS, ((), "builder", "once"), "builder"), [()])
        all_four = [(), ("on",), ("up",), ("on", "up")]
        self.assertEqual(choices_of(FACTS, ((), "builder", "once"), "breaker"), all_four)
        self.assertEqual(choices_of(FACTS, (FACTS, "builder", "once"), "builder"), all_four)
        self.assertEqual(choices_of(FACTS, (FACTS, "builder", "once"), "breaker"), [()])
        found = choices_of(("c", "b", "a"), (("b",), "builder", "once"), "breaker")
        self.assertEqual(found, [(), ("c",), ("a",), ("c", "a")])

    def test_a_returned_list_may_be_changed(self):
        game = (("on",), "breaker", "always")
        choices_of(FACTS, game, "breaker").clear()
        self.assertEqual(choices_of(FACTS, game, "breaker"), [(), ("up",)])


class SolveTest(unittest.TestCase):
    def test_examples(self):
        game = (("on",), "breaker", "always")
        self.assertEqual(solve(FACTS, game, LAST_SAME)[0], "builder")
        game = (("on",), "builder", "always")
        self.assertEqual(solve(FACTS, game, LAST_SAME)[0], "breaker")
        self.assertEqual(least_places(FACTS, game, LAST_SAME), 2)

    def test_who_wins(self):
        rng = random.Random(141)
        wins = {}
        games = 0
        while games < 250:
            facts = FACTS[:rng.randint(1, 2)]
            saying = naive.random_saying(rng, facts, rng.randint(1, 7))
            game = random_game(rng, facts)
            machine = machine_of(facts, saying)
            mine, theirs = len(naive_choices(facts, game, "builder")), len(naive_choices(facts, game, "breaker"))
            if (mine ** (1 if game[1] == "builder" else theirs)) ** len(machine[1]) > 5000:
                continue
            games += 1
            player, found, paper = solve(facts, game, saying)
            self.assertEqual(found, machine)
            self.assertEqual(player, winner(facts, game, machine), (facts, game, saying))
            self.assertTrue(is_right(facts, game, machine, player, paper))
            self.assertIsNone(judge_win(facts, game, machine, player, paper))
            wins[game[2], game[1], player] = wins.get((game[2], game[1], player), 0) + 1
        self.assertEqual(len(wins), 16)

    def test_great_games(self):
        rng = random.Random(142)
        for _ in range(60):
            saying = naive.random_saying(rng, THREE_FACTS, rng.randint(5, 12))
            game = random_game(rng, THREE_FACTS)
            try:
                player, machine, paper = solve(THREE_FACTS, game, saying)
            except TooLarge:
                continue
            self.assertTrue(is_right(THREE_FACTS, game, machine, player, paper))
            self.assertIsNone(judge_win(THREE_FACTS, game, machine, player, paper))

    def test_no_fact_and_all_facts(self):
        for first in PLAYERS:
            for own, player in (((), "breaker"), (FACTS, "builder")):
                for goal in GOALS:
                    self.assertEqual(solve(FACTS, (own, first, goal), SAME)[0], player)

    def test_who_is_first_counts(self):
        for goal in GOALS:
            self.assertEqual(solve(FACTS, (("on",), "breaker", goal), LAST_SAME)[0], "builder")
        for goal in ("always", "often", "lastly"):
            self.assertEqual(solve(FACTS, (("on",), "builder", goal), LAST_SAME)[0], "breaker")

    def test_the_empty_run_does_not_count(self):
        every = ("or", POINT, ("not", POINT))
        for goal in GOALS:
            self.assertEqual(solve(("on",), ((), "builder", goal), every)[0], "builder")
            self.assertEqual(solve(("on",), (("on",), "builder", goal), ("not", every))[0], "breaker")


class JudgeTest(unittest.TestCase):
    def judge(self, facts, game, machine, player, paper):
        expected = is_right(facts, game, machine, player, paper)
        if expected:
            self.assertIsNone(judge_win(facts, game, machine, player, paper))
        else:
            with self.assertRaises(BadPaper, msg=(facts, game, machine, player, paper)):
                judge_win(facts, game, machine, player, paper)
        return expected

    def plain_paper(self, rng, facts, game, machine, player):
        """A paper of a player with random choices and ranks for some rooms, the room 0 among them."""
        mine, theirs = naive_choices(facts, game, player), naive_choices(facts, game, others(player))
        rows = []
        for room in range(len(machine[1])):
            if room == 0 or rng.random() < 0.8:
                many = 1 if game[1] == player else len(theirs)
                rows.append((room, rng.randint(0, 3), tuple(rng.choice(mine) for _ in range(many))))
        rng.shuffle(rows)
        return tuple(rows)

    def test_random_papers(self):
        rng = random.Random(143)
        right = {}
        for _ in range(30000):
            facts = FACTS[:rng.randint(1, 2)]
            game = random_game(rng, facts)
            machine = random_machine(rng, facts, rng.randint(1, 3))
            player = rng.choice(PLAYERS)
            paper = self.plain_paper(rng, facts, game, machine, player)
            if self.judge(facts, game, machine, player, paper):
                right[game[2], player] = right.get((game[2], player), 0) + 1
        self.assertEqual(len(right), 8)

    def test_spoilt_papers(self):
        rng = random.Random(144)
        for _ in range(150):
            facts = FACTS[:rng.randint(1, 2)]
            game = random_game(rng, facts)
            player, machine, paper = solve(facts, game, naive.random_saying(rng, facts, rng.randint(1, 7)))
            right = (facts, game, machine, player)
            self.assertTrue(self.judge(*right, paper))
            self.assertTrue(self.judge(*right, paper[::-1]))
            # Greater ranks, all of them by as much.
            self.assertTrue(self.judge(*right, tuple((room, rank + 7, choices) for room, rank, choices in paper)))
            self.assertTrue(self.judge(*right, tuple((room, 10 * rank, choices) for room, rank, choices in paper)))
            self.assertFalse(self.judge(facts, game, machine, others(player), paper))
            self.assertFalse(self.judge(*right, ()))
            for k, (room, rank, choices) in enumerate(paper):
                rest = paper[:k] + paper[k + 1:]
                self.judge(*right, rest)
                self.assertFalse(self.judge(*right, paper + (paper[k],)))
                for row in (
                    (-1, rank, choices), (len(machine[1]), rank, choices), (room, -1, choices), (room, rank, ()),
                    (room, rank, choices + choices[:1]), (room, rank, choices[:-1]), (room, rank, choices[:-1] + (("x",),)),
                    (room, rank, choices[:-1] + (facts[::-1] + ("x",),)), (room, rank, choices[:-1] + (("",),)),
                ):
                    self.assertFalse(self.judge(*right, rest + (row,)))
                for row in ((room, 0, choices), (room, rank + 1, choices), (room, rank - 1, choices), (room, 99, choices)):
                    self.judge(*right, rest + (row,))
                for at in range(len(choices)):
                    for choice in naive.scenes(facts):
                        changed = choices[:at] + (choice,) + choices[at + 1:]
                        self.judge(*right, rest + ((room, rank, changed),))

    def test_choices_of_the_other_player(self):
        game = (("on",), "builder", "once")
        machine = machine_of(FACTS, ("or", ON, UP))
        self.assertIsNone(judge_win(FACTS, game, machine, "builder", ((0, 1, (("on",),)),)))
        for choice in (("up",), ("on", "up"), ("on", "on")):
            with self.assertRaises(BadPaper):
                judge_win(FACTS, game, machine, "builder", ((0, 1, (choice,)),))


class PlacesTest(unittest.TestCase):
    def slow(self, facts, game, machine, many):
        """Whether the seeker can force a hit within so many places, for each number from 0 on."""
        seeker = "builder" if game[2] == "once" else "breaker"
        mine, theirs = naive_choices(facts, game, seeker), naive_choices(facts, game, others(seeker))
        hits = {room for room in range(len(machine[1])) if (room in machine[2]) == (game[2] == "once")}

        def forces(room, left):
            if left == 0:
                return False
            good = lambda one, other: (
                behind(facts, machine, room, one, other) in hits
                or forces(behind(facts, machine, room, one, other), left - 1)
            )
            if game[1] == seeker:
                return any(all(good(one, other) for other in theirs) for one in mine)
            return all(any(good(one, other) for one in mine) for other in theirs)

        return [forces(0, left) for left in range(many + 1)]

    def test_against_a_plain_search(self):
        rng = random.Random(145)
        found = {}
        for _ in range(250):
            facts = FACTS[:rng.randint(1, 2)]
            game = random_game(rng, facts)[:2] + (rng.choice(["always", "once"]),)
            saying = naive.random_saying(rng, facts, rng.randint(1, 8))
            machine = machine_of(facts, saying)
            if len(machine[1]) > 6:
                continue
            told = self.slow(facts, game, machine, len(machine[1]) if len(facts) == 1 else 4)
            if True in told:
                self.assertEqual(least_places(facts, game, saying), told.index(True))
                found[told.index(True)] = True
            elif winner_is_avoider(facts, game, saying):
                with self.assertRaises(Missing):
                    least_places(facts, game, saying)
                found[None] = True
        self.assertLessEqual({None, 1, 2, 3}, set(found))

    def test_many_places(self):
        # The run has to have so many places.
        saying = POINT
        for many in range(2, 9):
            saying = ("some", "begins", saying)
            self.assertEqual(least_places(("on",), ((), "builder", "once"), saying), many)


def winner_is_avoider(facts, game, saying):
    return (solve(facts, game, saying)[0] == "builder") == (game[2] == "always")


class ErrorsTest(unittest.TestCase):
    def refused(self, error, call):
        with self.assertRaises(error):
            call()

    def test_not_allowed_ahead_of_too_large(self):
        many, _, _, text = BEYOND_THE_BOUNDS[0]
        facts, saying = THREE_FACTS[:many], read_saying(THREE_FACTS, text)
        game = (("on",), "builder", "always")
        self.refused(TooLarge, lambda: solve(facts, game, saying))
        self.refused(TooLarge, lambda: least_places(facts, game, saying))
        for bad in ((("z",), "builder", "always"), ((), "nobody", "once"), ((), "builder", "twice")):
            self.refused(NotAllowed, lambda: solve(facts, bad, saying))
            self.refused(NotAllowed, lambda: least_places(facts, bad, saying))
            machine = machine_of(facts, ON)
            self.refused(NotAllowed, lambda: judge_win(facts, bad, machine, "builder", ()))
        for goal in ("often", "lastly"):
            self.refused(TooLarge, lambda: solve(facts, ((), "builder", goal), saying))
            self.refused(NotAllowed, lambda: least_places(facts, ((), "builder", goal), saying))
            self.refused(NotAllowed, lambda: least_places(("on",), ((), "builder", goal), ON))

    def test_missing(self):
        self.refused(Missing, lambda: least_places(("on",), ((), "builder", "once"), ON))
        self.refused(Missing, lambda: least_places(("on",), (("on",), "builder", "always"), ON))

    def test_letters_that_are_not_the_scenes(self):
        game = (("on",), "builder", "always")
        for letters in ((("on",), ()), ((), ("on",), ("up",)), (0, 1), ((), ("up",))):
            machine = (letters, ((0,) * len(letters),), (0,))
            self.refused(NotAllowed, lambda: judge_win(("on",), game, machine, "builder", ()))
            self.refused(NotAllowed, lambda: judge_win(("on",), game, machine, "builder", ((0, 0, ((),)),)))


if __name__ == "__main__":
    unittest.main()
