"""parting.py: [4.6], with [4.1] to [4.4]."""

import itertools
import random
import unittest

from spansay.chains import chain_depth, chain_ways, check_chain, keeps_chain
from spansay.errors import BadPaper, Missing, TooLarge
from spansay.parting import MAX_PARTING, judge_parting, parting_of
from spansay.scenes import read_run
from spansay.types import parted_at
from tests import naive

ON, NO = ("on",), ()

# Found by search: the number of lines, or of those that there would be, the runs and the ways.
NEAR_THE_BOUND = (
    (299, "-;on;-;on;-;on;on;on;-;on;on;on;-;-;on;on;-;on;on;-;-;on;on",
     "-;on;-;on;-;on;on;on;-;on;-;on;on;-;-;on;on;-;on;on;-;-;on;on", "ended during met"),
    (300, "on;on;on;on;-;-;-;on;up;up;up;up;up;up;on;-;-;up;on;-;on;-;on;on;-;on;on;up",
     "on;on;on;on;-;-;-;on;up;up;up;up;up;up;on;-;-;-;up;on;-;on;-;on;on;-;on;on;up", "ends ended meets overlapped"),
    (301, "-;-;on;on;on;on;on;-;-;on;-;-;-;on;-;-;on;on;on;on;-;-;on;-",
     "-;-;on;on;on;on;on;-;on;-;on;-;-;-;on;-;-;on;on;on;on;-;-;on;-", "during later"),
    (302, "on;-;on;-;on;-;on;-;-;on;-;-;-;-;on;on;-;-;on;on;on;on;-;on;on",
     "on;-;on;-;on;on;-;on;-;-;on;-;-;-;-;on;on;-;-;on;on;on;on;-;on;on", "ends later"),
)


class ExamplesTest(unittest.TestCase):
    def test_example(self):
        chain = parting_of((ON, NO), (ON, NO, NO), ("begins",))
        self.assertEqual(chain, (("fact", "on"), ("not", 0), ("some", "begins", 1), ("not", 2)))
        self.assertEqual(MAX_PARTING, 300)


class ChainTest(unittest.TestCase):
    def compare(self, facts, first, second, ways):
        """Compare with the words of the document; return the depth, None if the runs are alike."""
        saying = naive.parting_saying(first, second, ways)
        if saying is None:
            with self.assertRaises(Missing):
                parting_of(first, second, ways)
            return None
        expected = naive.chain_lines(saying)
        if len(expected) > MAX_PARTING:
            with self.assertRaises(TooLarge):
                parting_of(first, second, ways)
            return None
        chain = parting_of(first, second, ways)
        self.assertEqual(chain, expected, (first, second, ways))
        check_chain(facts, chain)
        self.assertIsNone(judge_parting(first, second, ways, chain))
        self.assertEqual(chain_depth(chain), parted_at(first, second, ways))
        self.assertLessEqual(set(chain_ways(chain)), set(ways))
        return chain_depth(chain)

    def test_depth_0(self):
        facts = ("up", "on")
        both = ("up", "on")
        # In the order of texts `on` comes first, whatever the order of the facts.
        self.assertEqual(parting_of((both,), ((),), ()), (("fact", "on"),))
        self.assertEqual(parting_of(((),), (both,), ()), (("fact", "on"), ("not", 0)))
        self.assertEqual(parting_of((("up",),), (("on",),), ()), (("fact", "up"),))
        self.assertEqual(parting_of((both,), (("on",),), ()), (("fact", "up"),))
        self.assertEqual(parting_of((("on",),), (both, ("on", "up")), ()), (("fact", "up"), ("not", 0)))
        self.assertEqual(parting_of((NO,), (NO, NO), ()), (("point",),))
        self.assertEqual(parting_of((NO, NO), (NO,), ()), (("point",), ("not", 0)))
        self.assertEqual(parting_of((NO, NO), (NO,), naive.WAYS), (("point",), ("not", 0)))
        for first, second in itertools.product(itertools.chain(naive.runs(facts, 1), naive.runs(facts, 2)), repeat=2):
            self.compare(facts, first, second, ())

    def test_one_way_leads_to_nothing(self):
        some = (("point",), ("not", 0), ("or", 0, 1), ("some", "during", 2))
        self.assertEqual(parting_of((NO, NO, NO), (NO, NO), ("during",)), some)
        self.assertEqual(parting_of((NO, NO), (NO, NO, NO), ("during",)), some + (("not", 3),))
        self.assertEqual(parting_of((NO,) * 4, (NO,) * 3, ("during",)), some[:2] + (("some", "during", 1),))

    def test_all_pairs_of_short_runs(self):
        seen = set()
        runs = [run for many in (1, 2, 3) for run in naive.runs(("on",), many)]
        for way in naive.WAYS:
            for first, second in itertools.product(runs, repeat=2):
                seen.add(self.compare(("on",), first, second, (way,)))
        self.assertEqual(seen, {None, 0, 1})

    def test_random_runs_and_ways(self):
        rng = random.Random(71)
        depths = []
        for _ in range(250):
            facts = ("on", "up")[:rng.randint(1, 2)]
            many = rng.choice([0, 1, 1, 2, 3, 12])
            ways = tuple(way for way in naive.WAYS if way in rng.sample(naive.WAYS, many))
            runs = []
            for _ in range(2):
                length = rng.randint(2, 5)
                runs.append(tuple(rng.choice(naive.scenes(facts)[:2]) for _ in range(length)))
            depths.append(self.compare(facts, runs[0], runs[1], ways))
        for depth in (None, 0, 1, 2):
            self.assertIn(depth, depths)

    def test_great_depths(self):
        for many in (3, 5, 8):
            self.assertGreaterEqual(self.compare(("on",), (NO,) * many, (NO,) * (many - 1), ("begins",)), many - 2)
            self.assertGreaterEqual(self.compare(("on",), (NO,) * (many - 1), (NO,) * many, ("ends",)), many - 2)
            self.compare(("on",), (NO,) * many, (NO,) * (many - 1), naive.WAYS)

    def test_a_line_is_not_made_again(self):
        rng = random.Random(72)
        for _ in range(40):
            first, second = [tuple(rng.choice([ON, NO]) for _ in range(rng.randint(5, 9))) for _ in range(2)]
            try:
                chain = parting_of(first, second, ("meets", "met", "overlaps"))
            except (Missing, TooLarge):
                continue
            self.assertEqual(len(chain), len(set(chain)))


class BoundsTest(unittest.TestCase):
    def test_runs_alike(self):
        for run in ((NO,), (ON, NO), (NO,) * 40):
            for ways in ((), ("begins",), naive.WAYS):
                with self.assertRaises(Missing):
                    parting_of(run, run, ways)
        with self.assertRaises(Missing):
            parting_of((NO,) * 40, (NO,) * 39, ("later",))

    def test_forty_places(self):
        chain = parting_of((NO,) * 40, (NO,) * 39, ("begins",))
        self.assertEqual(chain_depth(chain), 38)
        self.assertIsNone(judge_parting((NO,) * 40, (NO,) * 39, ("begins",), chain))

    def test_three_hundred_lines_and_more(self):
        facts = ("on", "up")
        for many, one, other, words in NEAR_THE_BOUND:
            first, second, ways = read_run(facts, one), read_run(facts, other), tuple(words.split())
            if many <= MAX_PARTING:
                chain = parting_of(first, second, ways)
                self.assertEqual(len(chain), many)
                self.assertIsNone(judge_parting(first, second, ways, chain))
            else:
                with self.assertRaises(TooLarge):
                    parting_of(first, second, ways)


class JudgeTest(unittest.TestCase):
    def bad(self, first, second, ways, chain):
        with self.assertRaises(BadPaper):
            judge_parting(first, second, ways, chain)

    def test_other_chains_that_part(self):
        chain = (("fact", "on"), ("some", "ends", 0))
        self.assertIsNone(judge_parting((NO, ON), (NO, NO), ("ends",), chain))
        self.assertIsNone(judge_parting((NO, ON), (NO, NO), ("begins", "ends"), chain))

    def test_another_way(self):
        chain = (("fact", "on"), ("some", "ends", 0))
        self.bad((NO, ON), (NO, NO), ("begins",), chain)
        self.bad((NO, ON), (NO, NO), (), chain)
        # A way that does not stand in the saying of the last line is no other way.
        self.assertIsNone(judge_parting((ON,), (NO,), (), chain + (("not", 0), ("not", 2))))

    def test_of_the_first_run_and_of_the_second_one(self):
        chain = (("fact", "on"),)
        self.assertIsNone(judge_parting((ON,), (NO,), (), chain))
        self.bad((NO,), (ON,), (), chain)
        self.bad((ON,), (ON,), (), chain)
        self.bad((NO,), (NO,), (), chain)
        self.bad((ON,), (NO,), (), chain + (("not", 0),))

    def test_whole_runs_count(self):
        self.assertTrue(keeps_chain((NO, ON, NO), (("fact", "on"), ("some", "during", 0))))
        self.assertIsNone(judge_parting((NO, ON, NO), (NO, NO), ("during",), (("fact", "on"), ("some", "during", 0))))


if __name__ == "__main__":
    unittest.main()
