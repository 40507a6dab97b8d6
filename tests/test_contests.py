"""contests.py: [4.5] and the class Contest."""

import random
import unittest

from spansay.contests import Contest
from spansay.errors import NotAllowed
from spansay.types import types_of
from tests import naive

SHORT = (("on",), ())
LONG = (("on",), (), ())


class Slow:
    """A contest looked through to its end, by what [4.5] says."""

    def __init__(self, first, second, ways):
        self.runs = (first, second)
        self.ways = ways
        self.known = {}

    def whole(self, rounds):
        return ((0, len(self.runs[0]) - 1), (0, len(self.runs[1]) - 1)), rounds, None

    def same(self, pair):
        return naive.zero(self.runs[0], pair[0]) == naive.zero(self.runs[1], pair[1])

    def options(self, spot):
        pair, left, asked = spot
        if asked:
            number, way = asked
            return naive.reached(len(self.runs[1 - number]), way, *pair[1 - number])
        if left == 0 or not self.same(pair):
            return []
        return [
            (number, way, *stretch) for number in (0, 1) for way in self.ways
            for stretch in naive.reached(len(self.runs[number]), way, *pair[number])
        ]

    def behind(self, spot, choice):
        pair, left, asked = spot
        pair = list(pair)
        if asked:
            pair[1 - asked[0]] = choice
            return tuple(pair), left, None
        pair[choice[0]] = choice[2:]
        return tuple(pair), left - 1, choice[:2]

    def to_choose(self, spot):
        if not self.options(spot):
            return None
        return "answerer" if spot[2] else "asker"

    def winner(self, spot):
        if spot not in self.known:
            self.known[spot] = self.winner_now(spot)
        return self.known[spot]

    def winner_now(self, spot):
        pair, left, asked = spot
        who, other = ("answerer", "asker") if asked else ("asker", "answerer")
        if not asked and not self.same(pair):
            return "asker"
        if not asked and left == 0:
            return "answerer"
        after = [self.winner(self.behind(spot, choice)) for choice in self.options(spot)]
        return who if who in after else other

    def advice(self, spot):
        for choice in self.options(spot):
            if self.winner(self.behind(spot, choice)) == self.to_choose(spot):
                return choice
        return None


def told(contest):
    return (
        contest.stretches(), contest.left(), contest.to_choose(), contest.winner(), contest.options(),
        contest.advice(), contest.choices(),
    )


def told_slowly(slow, spot, choices):
    return (
        spot[0], spot[1], slow.to_choose(spot), slow.winner(spot), slow.options(spot),
        slow.advice(spot), tuple(choices),
    )


def random_cases(seed, many, places):
    rng = random.Random(seed)
    for _ in range(many):
        ways = tuple(way for way in naive.WAYS if rng.random() < rng.choice([0.1, 0.3, 1]))
        first, second = [
            tuple(rng.choice([(), ("on",)]) for _ in range(rng.randint(1, places))) for _ in range(2)
        ]
        if rng.random() < 0.3:
            second = first[:1] + first
        yield rng, first, second, ways


class ContestTest(unittest.TestCase):
    def test_example(self):
        contest = Contest((("on",), ()), (("on",), (), ()), ("begins",), 2)
        self.assertEqual((contest.winner(), contest.advice()), ("asker", (1, "begins", 0, 1)))
        self.assertIsNone(contest.choose((1, "begins", 0, 1)))
        self.assertEqual(
            (contest.to_choose(), contest.options(), contest.winner()), ("answerer", [(0, 0)], "asker"),
        )

    def test_the_beginning(self):
        contest = Contest(SHORT, LONG, ("begins", "met"), 3)
        self.assertEqual(contest.stretches(), ((0, 1), (0, 2)))
        self.assertEqual((contest.left(), contest.to_choose(), contest.choices()), (3, "asker", ()))
        self.assertEqual(contest.options(), [
            (0, "begins", 0, 0), (0, "met", 0, 0), (1, "begins", 0, 0), (1, "begins", 0, 1),
            (1, "met", 0, 0),
        ])

    def test_over_at_the_beginning(self):
        for first, second, ways, rounds, wins in (
            (SHORT, (("on",),), naive.WAYS, 6, "asker"), (((),), (("on",),), naive.WAYS, 0, "asker"),
            (SHORT, LONG, naive.WAYS, 0, "answerer"), (SHORT, LONG, (), 6, "answerer"),
            (SHORT, LONG, ("begun", "ended", "around", "later", "earlier"), 6, "answerer"),
        ):
            contest = Contest(first, second, ways, rounds)
            self.assertEqual((contest.to_choose(), contest.winner()), (None, wins))
            self.assertEqual((contest.options(), contest.advice()), ([], None))
            self.assertEqual(contest.left(), rounds)
            for choice in ((0, "begins", 0, 0), (0, 0), (1, "met", 0, 0)):
                with self.assertRaises(NotAllowed):
                    contest.choose(choice)

    def test_an_answerer_without_a_choice_has_lost(self):
        contest = Contest(((), ()), ((), (), ()), ("during",), 1)
        self.assertEqual(contest.advice(), (1, "during", 1, 1))
        contest.choose((1, "during", 1, 1))
        self.assertEqual((contest.to_choose(), contest.winner()), (None, "asker"))
        self.assertEqual((contest.options(), contest.advice(), contest.left()), ([], None, 0))
        self.assertEqual(contest.stretches(), ((0, 1), (1, 1)))
        with self.assertRaises(NotAllowed):
            contest.choose((0, 0))

    def test_rounds_and_stretches(self):
        contest = Contest(LONG, LONG, ("begins",), 2)
        contest.choose((0, "begins", 0, 1))
        self.assertEqual((contest.stretches(), contest.left()), (((0, 1), (0, 2)), 1))
        contest.choose((0, 1))
        self.assertEqual((contest.stretches(), contest.left()), (((0, 1), (0, 1)), 1))
        self.assertEqual((contest.to_choose(), contest.winner()), ("asker", "answerer"))
        contest.choose((1, "begins", 0, 0))
        self.assertEqual((contest.stretches(), contest.left()), (((0, 1), (0, 0)), 0))
        contest.choose((0, 0))
        self.assertEqual((contest.stretches(), contest.left()), (((0, 0), (0, 0)), 0))
        self.assertEqual((contest.to_choose(), contest.winner()), (None, "answerer"))
        self.assertEqual(
            contest.choices(), ((0, "begins", 0, 1), (0, 1), (1, "begins", 0, 0), (0, 0)),
        )

    def test_all_choices_of_small_contests(self):
        for _, first, second, ways in random_cases(101, 60, 3):
            slow = Slow(first, second, ways)
            for rounds in range(4):
                contest = Contest(first, second, ways, rounds)
                spot = slow.whole(rounds)
                self.assertEqual(told(contest), told_slowly(slow, spot, []))
                for choice in slow.options(spot):
                    self.assertIsNone(contest.choose(choice))
                    after = slow.behind(spot, choice)
                    self.assertEqual(told(contest), told_slowly(slow, after, [choice]))
                    for answer in slow.options(after):
                        contest.choose(answer)
                        both = told_slowly(slow, slow.behind(after, answer), [choice, answer])
                        self.assertEqual(told(contest), both)
                        contest.back()
                    self.assertIsNone(contest.back())
                self.assertEqual(told(contest), told_slowly(slow, spot, []))

    def test_long_ways_through_contests(self):
        for rng, first, second, ways in random_cases(102, 120, 5):
            slow = Slow(first, second, ways)
            contest = Contest(first, second, ways, 3)
            spot, choices = slow.whole(3), []
            while slow.options(spot):
                self.assertEqual(told(contest), told_slowly(slow, spot, choices))
                choice = rng.choice(slow.options(spot))
                if rng.random() < 0.5:
                    choice = contest.advice() or choice
                contest.choose(choice)
                spot = slow.behind(spot, choice)
                choices.append(choice)
            self.assertEqual(told(contest), told_slowly(slow, spot, choices))

    def test_the_theorem(self):
        for _, first, second, ways in random_cases(103, 150, 6):
            for rounds in range(7):
                one, other = types_of((first, second), ways, rounds)
                same = one[len(first) - 1] == other[len(second) - 1]
                contest = Contest(first, second, ways, rounds)
                self.assertEqual(contest.winner(), "answerer" if same else "asker")

    def test_who_takes_advice_wins(self):
        for rng, first, second, ways in random_cases(104, 150, 7):
            contest = Contest(first, second, ways, 6)
            wins = contest.winner()
            while contest.to_choose():
                self.assertEqual(contest.winner(), wins)
                if contest.to_choose() == wins:
                    contest.choose(contest.advice())
                else:
                    self.assertIsNone(contest.advice())
                    contest.choose(rng.choice(contest.options()))
            self.assertEqual(contest.winner(), wins)

    def test_a_refused_choice_changes_nothing(self):
        contest = Contest(SHORT, LONG, ("begins", "ends"), 2)
        before = told(contest)
        for choice in (
            (0, 0), (0, "begins", 0, 1), (0, "ends", 0, 0), (2, "begins", 0, 0), (-1, "begins", 0, 0),
            (0, "met", 0, 0), (0, "begun", 0, 1), (), (0, "begins", 0), (0, "begins", 0, 0, 0),
            ("begins", 0, 0, 0), (0, "begins", (0, 0)), (1, "begins", 0, 2), (0, "", 0, 0),
        ):
            with self.assertRaises(NotAllowed, msg=choice):
                contest.choose(choice)
            self.assertEqual(told(contest), before)
        contest.choose((0, "begins", 0, 0))
        before = told(contest)
        for choice in ((0, 2), (1, 1), (0,), (), (0, 0, 0), (1, "begins", 0, 0), (0, "begins", 0, 0)):
            with self.assertRaises(NotAllowed, msg=choice):
                contest.choose(choice)
            self.assertEqual(told(contest), before)

    def test_back(self):
        contest = Contest(LONG, SHORT, ("begins",), 2)
        with self.assertRaises(NotAllowed):
            contest.back()
        tellings = []
        for choice in ((0, "begins", 0, 0), (0, 0)):
            tellings.append(told(contest))
            contest.choose(choice)
        while tellings:
            contest.back()
            self.assertEqual(told(contest), tellings.pop())
        with self.assertRaises(NotAllowed):
            contest.back()
        self.assertEqual(contest.choices(), ())

    def test_two_at_once_do_not_touch_each_other(self):
        one = Contest(SHORT, LONG, ("begins",), 2)
        other = Contest(SHORT, LONG, ("begins",), 2)
        before = told(other)
        one.choose((0, "begins", 0, 0))
        self.assertEqual(told(other), before)
        other.choose((1, "begins", 0, 1))
        self.assertEqual(one.choices(), ((0, "begins", 0, 0),))
        self.assertEqual(other.choices(), ((1, "begins", 0, 1),))

    def test_lists_that_are_returned_are_new(self):
        contest = Contest(SHORT, LONG, ("begins",), 2)
        before = told(contest)
        contest.options().clear()
        contest.options().append(7)
        self.assertEqual(told(contest), before)
        contest.choose((0, "begins", 0, 0))
        before = told(contest)
        contest.options().clear()
        self.assertEqual(told(contest), before)

    def test_runs_of_40_places(self):
        first, second = ((),) * 40, ((),) * 39
        contest = Contest(first, second, naive.WAYS, 6)
        parted = types_of((first, second), naive.WAYS, 6)
        same = parted[0][39] == parted[1][38]
        self.assertEqual(contest.winner(), "answerer" if same else "asker")
        self.assertEqual(len(contest.options()), sum(
            len(naive.reached(many, way, 0, many - 1)) for many in (40, 39) for way in naive.WAYS
        ))
        choice = contest.advice()
        self.assertEqual(choice is None, same)
        if choice:
            contest.choose(choice)
            self.assertEqual(contest.winner(), "asker")


if __name__ == "__main__":
    unittest.main()
