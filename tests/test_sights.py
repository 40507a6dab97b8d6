"""sights.py: [14.1]."""

import itertools
import random
import unittest

from spansay.errors import NotAllowed
from spansay.games import GOALS, PLAYERS
from spansay.sights import AIMS, check_sight, choices_for, glimpse_of, glimpses_of, others_of
from tests import naive

FACTS = ("on", "up", "x")


def subsets(facts):
    return [part for many in range(len(facts) + 1) for part in itertools.combinations(facts, many)]


def random_sight(rng, facts, goals=GOALS):
    own = tuple(fact for fact in facts if rng.random() < 0.5)
    seen = tuple(fact for fact in facts if fact not in own and rng.random() < 0.5)
    return (own, seen, rng.choice(PLAYERS), rng.choice(goals))


class SightsTest(unittest.TestCase):
    def test_examples(self):
        sight = (("on",), ("up",), "breaker", "always")
        found = others_of(("on", "up", "x"), sight), glimpses_of(sight), glimpse_of(sight, ("up", "x"))
        self.assertEqual(found, ([(), ("up",), ("x",), ("up", "x")], [(), ("up",)], ("up",)))

    def test_aims(self):
        self.assertEqual(AIMS, ("always", "once", "often"))

    def test_right_ones(self):
        for own in subsets(FACTS):
            rest = tuple(fact for fact in FACTS if fact not in own)
            for seen in subsets(rest):
                for first in PLAYERS:
                    for goal in GOALS:
                        self.assertIsNone(check_sight(FACTS, (own, seen, first, goal)))

    def test_spoilt(self):
        for sight in (
            (("up", "on"), (), "builder", "once"), (("on", "on"), (), "builder", "once"), (("y",), (), "builder", "once"),
            (("",), (), "builder", "once"), ((), ("up", "on"), "builder", "once"), ((), ("on", "on"), "builder", "once"),
            ((), ("y",), "builder", "once"), ((), ("",), "builder", "once"), (("on",), ("on",), "builder", "once"),
            (("on",), ("on", "up"), "builder", "once"), (("on", "up"), ("up", "x"), "builder", "once"),
            (FACTS, ("on",), "builder", "once"), ((), (), "seeker", "once"), ((), (), "", "once"), ((), (), "once", "builder"),
            ((), (), "builder", "never"), ((), (), "builder", ""), ((), (), "Builder", "once"), ((), (), "builder", "ALWAYS"),
            (("on",), ("x", "up"), "builder", "once"), (("x",), ("on", "up", "x"), "builder", "once"),
        ):
            with self.assertRaises(NotAllowed, msg=sight):
                check_sight(FACTS, sight)
        # Seen facts of the breaker, but none of the facts that are meant.
        with self.assertRaises(NotAllowed):
            check_sight(("on",), ((), ("up",), "builder", "once"))

    def test_choices_glimpses_and_others(self):
        rng = random.Random(221)
        for _ in range(200):
            sight = random_sight(rng, FACTS)
            own, seen, _, _ = sight
            rest = tuple(fact for fact in FACTS if fact not in own)
            self.assertEqual(choices_for(sight), naive.scenes(own))
            self.assertEqual(glimpses_of(sight), naive.scenes(seen))
            self.assertEqual(others_of(FACTS, sight), naive.scenes(rest))
            for other in naive.scenes(rest):
                expected = tuple(fact for fact in other if fact in seen)
                self.assertEqual(glimpse_of(sight, other), expected)
                self.assertIn(glimpse_of(sight, other), glimpses_of(sight))

    def test_order_of_the_facts(self):
        sight = (("x",), ("b", "a"), "builder", "once")
        facts = ("x", "b", "c", "a")[:3] + ("a",)
        self.assertEqual(glimpses_of(sight), [(), ("b",), ("a",), ("b", "a")])
        self.assertEqual(others_of(facts, sight)[:5], [(), ("b",), ("c",), ("b", "c"), ("a",)])
        self.assertEqual(glimpse_of(sight, ("b", "c", "a")), ("b", "a"))

    def test_nothing_and_everything_seen(self):
        self.assertEqual(glimpses_of(((), (), "builder", "once")), [()])
        self.assertEqual(glimpse_of(((), (), "builder", "once"), FACTS), ())
        self.assertEqual(glimpse_of(((), FACTS, "builder", "once"), ("up", "x")), ("up", "x"))
        self.assertEqual((choices_for((FACTS, (), "builder", "once")), others_of(FACTS, (FACTS, (), "builder", "once"))), (
            naive.scenes(FACTS), [()],
        ))

    def test_returned_lists_may_be_changed(self):
        sight = (("on",), ("up",), "breaker", "always")
        for _ in range(2):
            self.assertEqual([len(choices_for(sight)), len(glimpses_of(sight)), len(others_of(FACTS, sight))], [2, 2, 4])
            choices_for(sight).clear()
            glimpses_of(sight).clear()
            others_of(FACTS, sight).clear()


if __name__ == "__main__":
    unittest.main()
