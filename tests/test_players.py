"""players.py: [10.1] to [10.4]."""

import random
import unittest

from spansay.errors import BadPaper, Missing, NotAllowed, TooLarge
from spansay.games import GOALS, PLAYERS, solve
from spansay.least import machine_of
from spansay.players import Player
from tests import naive
from tests.test_games import FACTS, LAST_SAME, naive_choices, others, random_game, scene_of


class Model:
    """A play by a paper, kept as plain values."""

    def __init__(self, facts, game, machine, player, paper):
        self.facts, self.game, self.machine, self.player = facts, game, machine, player
        self.plan = {room: choices for room, _, choices in paper}
        self.made = []
        self.theirs = naive_choices(facts, game, others(player))

    def room(self):
        return naive.room(self.machine, self.made)

    def over(self):
        own, first, goal = self.game
        seeker = "builder" if goal in ("once", "often") else "breaker"
        if self.player != seeker or goal in ("often", "lastly"):
            return False
        lets = [naive.lets(self.machine, self.made[:k]) for k in range(1, len(self.made) + 1)]
        return any(kept == (goal == "once") for kept in lets)

    def now(self):
        return self.plan[self.room()][0] if self.game[1] == self.player else None

    def take(self, choice):
        at = 0 if self.game[1] == self.player else self.theirs.index(choice)
        self.made.append(scene_of(self.facts, choice, self.plan[self.room()][at]))
        return self.made[-1]


def some_play(rng, facts, most=8, **wanted):
    """The arguments of a player who wins a random game."""
    while True:
        game = random_game(rng, facts)
        saying = naive.random_saying(rng, facts, rng.randint(1, most))
        try:
            player, machine, paper = solve(facts, game, saying)
        except TooLarge:
            continue
        return facts, game, machine, player, paper


class PlayerTest(unittest.TestCase):
    def test_examples(self):
        game = (("on",), "breaker", "always")
        solved = solve(FACTS, game, LAST_SAME)
        player = Player(FACTS, game, solved[1], "builder", solved[2])
        found = player.now(), player.take(("up",))[-1:], player.take(("up",)), player.kept()
        self.assertEqual(found, (None, ("up",), ("on", "up"), [True, True]))

    def check(self, play, model):
        self.assertIs(play.is_over(), model.over())
        self.assertEqual(play.run(), tuple(model.made))
        kept = [naive.lets(model.machine, model.made[:k]) for k in range(1, len(model.made) + 1)]
        self.assertEqual(play.kept(), kept)
        self.assertTrue(all(value is True or value is False for value in play.kept()))
        if model.over():
            for call in (play.now, lambda: play.take(()), lambda: play.take(("x",))):
                with self.assertRaises(Missing):
                    call()
        else:
            self.assertEqual(play.now(), model.now())

    def test_random_plays(self):
        rng = random.Random(171)
        seen = {}
        for _ in range(400):
            facts = FACTS[:rng.randint(1, 2)]
            arguments = some_play(rng, facts)
            play, model = Player(*arguments), Model(*arguments)
            game, player = arguments[1], arguments[3]
            for _ in range(12):
                self.check(play, model)
                if model.made and rng.random() < 0.25:
                    self.assertIsNone(play.back())
                    model.made.pop()
                elif not model.over():
                    for wrong in (("x",), facts[::-1] * 2, ("",)):
                        with self.assertRaises(NotAllowed):
                            play.take(wrong)
                    choice = rng.choice(model.theirs)
                    self.assertEqual(play.take(choice), model.take(choice))
            key = (player, game[1], game[2], model.over())
            seen[key] = seen.get(key, 0) + 1
            # Back to the beginning, and beyond.
            while model.made:
                play.back()
                model.made.pop()
            self.check(play, model)
            for _ in range(2):
                with self.assertRaises(Missing):
                    play.back()
        for player in PLAYERS:
            for first in PLAYERS:
                for goal in GOALS:
                    self.assertTrue((player, first, goal, True) in seen or (player, first, goal, False) in seen)
        self.assertEqual({key[2] for key in seen if key[3]}, {"always", "once"})

    def test_the_player_wins(self):
        rng = random.Random(172)
        for _ in range(200):
            facts = FACTS[:rng.randint(1, 2)]
            arguments = some_play(rng, facts)
            play = Player(*arguments)
            game, player = arguments[1], arguments[3]
            theirs = naive_choices(facts, game, others(player))
            for _ in range(150):
                if play.is_over():
                    break
                play.take(rng.choice(theirs))
            kept = play.kept()
            if game[2] == "always":
                self.assertEqual(all(kept), player == "builder")
            elif game[2] == "once":
                self.assertEqual(any(kept), player == "builder")
            elif game[2] == "often":
                self.assertEqual(any(kept[75:]), player == "builder")
            else:
                self.assertEqual(all(kept[75:]), player == "builder")

    def test_choices_that_are_none(self):
        game = (("on",), "builder", "once")
        _, machine, paper = solve(FACTS, game, ("fact", "up"))
        play = Player(FACTS, game, machine, "breaker", paper)
        self.assertIsNone(play.now())
        for choice in (("up",), ("on", "up"), ("on", "on"), ("x",)):
            with self.assertRaises(NotAllowed):
                play.take(choice)
        self.assertEqual(play.run(), ())
        self.assertEqual(play.take(("on",)), ("on",))

    def test_a_play_that_is_over(self):
        game = (("on",), "builder", "once")
        player, machine, paper = solve(("on", "up"), game, ("some", "ends", ("fact", "on")))
        play = Player(FACTS, game, machine, player, paper)
        self.assertIs(play.is_over(), False)
        while not play.is_over():
            play.take(("up",))
        self.assertEqual(play.kept()[-1], True)
        for choice in (("up",), ("on",), ("x",)):
            with self.assertRaises(Missing):
                play.take(choice)
        with self.assertRaises(Missing):
            play.now()
        play.back()
        self.assertIs(play.is_over(), False)
        self.assertEqual(play.now(), ("on",))
        play.take(())
        self.assertIs(play.is_over(), True)

    def test_a_first_room_that_is_a_hit_does_not_end_the_play(self):
        # The machine lets the empty row by: but a hit comes behind a place.
        machine = (tuple(naive.scenes(("on",))), ((1, 0), (1, 0)), (0,))
        game = (("on",), "builder", "once")
        play = Player(("on",), game, machine, "builder", ((0, 1, (("on",),)),))
        self.assertIs(play.is_over(), False)
        self.assertEqual(play.take(()), ("on",))
        self.assertIs(play.is_over(), True)

    def test_avoiders_and_lasting_goals_are_never_over(self):
        every = ("or", ("point",), ("not", ("point",)))
        for goal in GOALS:
            game = (("on",), "builder", goal)
            player, machine, paper = solve(FACTS, game, every)
            play = Player(FACTS, game, machine, player, paper)
            self.assertEqual(player, "builder")
            play.take(())
            self.assertIs(play.is_over(), goal == "once")

    def test_papers_that_are_not_right(self):
        rng = random.Random(173)
        for _ in range(60):
            facts, game, machine, player, paper = some_play(rng, FACTS)
            rest = tuple(row for row in paper if row[0])
            for wrong in ((), rest, paper + paper[:1], tuple((room, -1, choices) for room, _, choices in paper)):
                with self.assertRaises(BadPaper):
                    Player(facts, game, machine, player, wrong)
            with self.assertRaises(BadPaper):
                Player(facts, game, machine, others(player), paper)

    def test_what_is_not_allowed(self):
        game = (("on",), "builder", "once")
        player, machine, paper = solve(FACTS, game, ("fact", "up"))
        for wrong in ((("x",), "builder", "once"), (("on",), "seeker", "once"), (("on",), "builder", "never")):
            with self.assertRaises(NotAllowed):
                Player(FACTS, wrong, machine, player, paper)
        for letters in (tuple(range(4)), machine[0][::-1]):
            for some in (paper, ()):
                with self.assertRaises(NotAllowed):
                    Player(FACTS, game, (letters,) + machine[1:], player, some)

    def test_two_at_once(self):
        game = (("on",), "breaker", "always")
        player, machine, paper = solve(FACTS, game, LAST_SAME)
        one, other = Player(FACTS, game, machine, player, paper), Player(FACTS, game, machine, player, paper)
        one.take(("up",))
        self.assertEqual((other.run(), other.kept()), ((), []))
        other.take(())
        other.take(("up",))
        one.back()
        self.assertEqual((one.run(), len(other.run())), ((), 2))

    def test_a_returned_list_may_be_changed(self):
        game = (("on",), "breaker", "always")
        player, machine, paper = solve(FACTS, game, LAST_SAME)
        play = Player(FACTS, game, machine, player, paper)
        play.take(("up",))
        play.kept().clear()
        self.assertEqual(play.kept(), [True])

    def test_long_plays(self):
        game = (("on",), "builder", "often")
        machine = machine_of(("on",), ("some", "ends", ("fact", "on")))
        play = Player(("on",), game, machine, "builder", solve(("on",), game, ("some", "ends", ("fact", "on")))[2])
        for _ in range(3000):
            play.take(())
        self.assertEqual((len(play.run()), any(play.kept()[-5:])), (3000, True))


if __name__ == "__main__":
    unittest.main()
