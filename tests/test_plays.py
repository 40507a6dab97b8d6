"""plays.py: [3.3] and the class Play."""

import random
import unittest

from spansay.errors import Missing, NotAllowed
from spansay.plays import Play
from tests import naive

ON = ("fact", "on")
POINT = ("point",)
RUN = (("on",), (), ("on",))


def bare(saying, stretch, claims):
    """A position without `not` in front."""
    while saying[0] == "not":
        saying, claims = saying[1], 1 - claims
    return saying, stretch, claims


def choices(run, position):
    saying, stretch, _ = position
    if saying[0] in ("and", "or"):
        return [0, 1]
    if saying[0] in ("some", "all"):
        return naive.reached(len(run), saying[1], *stretch)
    return []


def turn(run, position):
    saying, _, claims = position
    if not choices(run, position):
        return -1
    return claims if saying[0] in ("or", "some") else 1 - claims


def behind(position, choice):
    saying, stretch, claims = position
    if saying[0] in ("and", "or"):
        return bare(saying[1 + choice], stretch, claims)
    return bare(saying[2], choice, claims)


def winner(run, position):
    """Who wins, by looking through all plays."""
    player = turn(run, position)
    if player == -1:
        saying, stretch, claims = position
        return claims if naive.told(run, saying, *stretch) else 1 - claims
    after = [winner(run, behind(position, choice)) for choice in choices(run, position)]
    return player if player in after else 1 - player


def advice(run, position):
    player = turn(run, position)
    for choice in choices(run, position):
        if winner(run, behind(position, choice)) == player:
            return choice
    return None


class PlayTest(unittest.TestCase):
    def test_example(self):
        play = Play(RUN, ("all", "begins", ("some", "meets", ("not", ("fact", "on")))), 0, 2)
        self.assertEqual((play.turn(), play.winner(), play.choices()), (1, 0, [(0, 0), (0, 1)]))
        self.assertEqual(
            (play.choose((0, 0)), play.position()),
            (None, (("some", "meets", ("not", ("fact", "on"))), (0, 0), 0)),
        )
        self.assertEqual((play.advice(), play.made()), ((0, 1), [(0, 0)]))

    def test_no_stretches(self):
        for first, last in ((-1, 0), (0, -1), (1, 0), (0, 3), (3, 3)):
            with self.assertRaises(NotAllowed):
                Play(RUN, ON, first, last)

    def test_positions_without_a_not_in_front(self):
        play = Play(RUN, ("not", ON), 1, 1)
        self.assertEqual(play.position(), (ON, (1, 1), 1))
        self.assertEqual((play.turn(), play.winner(), play.choices()), (-1, 0, []))
        play = Play(RUN, ("not", ("not", ("or", ("not", ON), POINT))), 0, 1)
        self.assertEqual(play.position(), (("or", ("not", ON), POINT), (0, 1), 0))
        self.assertEqual(play.turn(), 0)
        play.choose(0)
        self.assertEqual(play.position(), (ON, (0, 1), 1))
        self.assertEqual(play.winner(), 0)

    def test_who_has_to_choose(self):
        for saying, player in (
            (("or", ON, ON), 0), (("some", "begins", ON), 0), (("and", ON, ON), 1),
            (("all", "begins", ON), 1), (("not", ("or", ON, ON)), 1),
            (("not", ("some", "begins", ON)), 1), (("not", ("and", ON, ON)), 0),
            (("not", ("all", "begins", ON)), 0), (ON, -1), (("not", POINT), -1),
            (("some", "later", ON), -1), (("all", "around", ON), -1), (("not", ("all", "later", ON)), -1),
        ):
            self.assertEqual(Play(RUN, saying, 0, 2).turn(), player, saying)

    def test_a_way_that_leads_nowhere(self):
        for saying, wins in (
            (("some", "later", ON), 1), (("all", "later", ON), 0),
            (("not", ("some", "later", ON)), 0), (("not", ("all", "later", ON)), 1),
        ):
            play = Play(RUN, saying, 0, 2)
            self.assertEqual((play.turn(), play.choices(), play.winner()), (-1, [], wins))
            with self.assertRaises(Missing):
                play.advice()
            with self.assertRaises(NotAllowed):
                play.choose((0, 0))

    def test_all_plays_of_small_sayings(self):
        rng = random.Random(81)
        for _ in range(120):
            saying = naive.random_saying(rng, ("on", "up"), rng.randint(1, 7))
            run = tuple(rng.choice(naive.scenes(("on", "up"))) for _ in range(rng.randint(1, 3)))
            for stretch in naive.stretches(len(run)):
                play = Play(run, saying, *stretch)
                self.look_through(run, play, bare(saying, stretch, 0), [], 60)

    def look_through(self, run, play, position, made, many):
        self.compare(run, play, position, made)
        for choice in choices(run, position)[:many]:
            self.assertIsNone(play.choose(choice))
            self.look_through(run, play, behind(position, choice), made + [choice], 2)
            self.assertIsNone(play.back())
        self.compare(run, play, position, made)

    def compare(self, run, play, position, made):
        self.assertEqual(play.position(), position)
        self.assertEqual(play.turn(), turn(run, position))
        self.assertEqual(play.choices(), choices(run, position))
        self.assertEqual(play.made(), made)
        self.assertEqual(play.winner(), winner(run, position))
        best = advice(run, position)
        if best is None:
            with self.assertRaises(Missing):
                play.advice()
        else:
            self.assertEqual(play.advice(), best)
        if not made:
            with self.assertRaises(Missing):
                play.back()

    def test_the_theorem(self):
        rng = random.Random(82)
        for _ in range(200):
            saying = naive.random_saying(rng, ("on",), rng.randint(1, 12))
            run = tuple(rng.choice(naive.scenes(("on",))) for _ in range(rng.randint(1, 5)))
            for stretch in naive.stretches(len(run)):
                expected = 0 if naive.told(run, saying, *stretch) else 1
                self.assertEqual(Play(run, saying, *stretch).winner(), expected)

    def test_a_player_who_takes_advice_wins(self):
        rng = random.Random(83)
        for _ in range(200):
            saying = naive.random_saying(rng, ("on",), rng.randint(3, 15))
            run = tuple(rng.choice(naive.scenes(("on",))) for _ in range(4))
            play = Play(run, saying, 0, 3)
            wins = play.winner()
            while play.turn() != -1:
                self.assertEqual(play.winner(), wins)
                if play.turn() == wins:
                    play.choose(play.advice())
                else:
                    with self.assertRaises(Missing):
                        play.advice()
                    play.choose(rng.choice(play.choices()))
            self.assertEqual(play.winner(), wins)

    def test_a_refused_choice_changes_nothing(self):
        play = Play(RUN, ("all", "begins", ("or", ON, POINT)), 0, 2)
        before = told(play)
        for choice in (0, 1, -1, (0, 2), (1, 1), (0,), (), (0, 0, 0), (2, 0), ((0, 0), (0, 1))):
            with self.assertRaises(NotAllowed, msg=choice):
                play.choose(choice)
            self.assertEqual(told(play), before)
        play.choose((0, 1))
        before = told(play)
        for choice in (2, -1, (0, 0), (0, 1), (), (0,), (1,)):
            with self.assertRaises(NotAllowed, msg=choice):
                play.choose(choice)
            self.assertEqual(told(play), before)
        play.choose(1)
        before = told(play)
        for choice in (0, 1, (0, 0), (0, 1), ()):
            with self.assertRaises(NotAllowed, msg=choice):
                play.choose(choice)
            self.assertEqual(told(play), before)

    def test_back(self):
        play = Play(RUN, ("and", ("or", ON, POINT), ("some", "ends", ON)), 0, 2)
        with self.assertRaises(Missing):
            play.back()
        tellings = []
        for choice in (1, (2, 2)):
            tellings.append(told(play))
            play.choose(choice)
        self.assertEqual(play.made(), [1, (2, 2)])
        self.assertEqual((play.turn(), play.winner()), (-1, 0))
        while tellings:
            play.back()
            self.assertEqual(told(play), tellings.pop())
        with self.assertRaises(Missing):
            play.back()
        self.assertEqual(play.made(), [])

    def test_two_at_once_do_not_touch_each_other(self):
        one = Play(RUN, ("or", ON, POINT), 0, 2)
        other = Play(RUN, ("or", ON, POINT), 0, 2)
        before = told(other)
        one.choose(1)
        self.assertEqual(told(other), before)
        other.choose(0)
        self.assertEqual((one.made(), other.made()), ([1], [0]))
        self.assertEqual(one.position(), (POINT, (0, 2), 0))

    def test_lists_that_are_returned_are_new(self):
        play = Play(RUN, ("some", "begins", ("or", ON, POINT)), 0, 2)
        play.choose((0, 1))
        before = told(play)
        play.choices().append(7)
        play.choices().clear()
        play.made().append(7)
        play.made().clear()
        self.assertEqual(told(play), before)

    def test_40_places(self):
        run = (("on",), ()) * 20
        saying = ("some", "overlaps", ("all", "met", ("or", POINT, ON)))
        play = Play(run, saying, 5, 30)
        self.assertEqual(play.choices(), naive.reached(40, "overlaps", 5, 30))
        self.assertEqual((play.turn(), play.winner()), (0, 1))


def told(play):
    try:
        best = play.advice()
    except Missing:
        best = "missing"
    return play.position(), play.turn(), play.choices(), play.made(), play.winner(), best


if __name__ == "__main__":
    unittest.main()
