"""chains.py: [5.4], [5.5], [5.6]."""

import itertools
import random
import unittest

from spansay.chains import (
    MAX_CHAIN, MAX_LINES, chain_depth, chain_holds, chain_of, chain_ways, check_chain, check_future,
    future_at, keeps_chain, keeps_future, saying_of, stretched,
)
from spansay.errors import NotAllowed, TooLarge
from spansay.sayings import count_nodes, depth_of, ways_in
from tests import naive

FACTS = ("on", "up")
LATER = (("here", "up"), ("here", "on"), ("until", 1, 0))
STRETCH_LINES = (
    ("fact", "on"), ("point",), ("not", 0), ("and", 0, 1), ("or", 2, 2), ("some", "meets", 3), ("all", "overlapped", 5),
)
FUTURE_LINES = (("yes",), ("here", "up"), ("not", 1), ("and", 0, 2), ("or", 1, 3), ("until", 4, 0))


def random_chain(rng, facts, many, back):
    """A random stretch chain whose lines look at the lines shortly ahead of them."""
    chain = []
    for k in range(many):
        word = rng.choice(["fact", "point", "not", "and", "or", "some", "all"]) if k > 1 else "fact"
        low = max(0, k - back)
        if word == "fact":
            chain.append((word, rng.choice(facts)))
        elif word == "point":
            chain.append((word,))
        elif word == "not":
            chain.append((word, rng.randrange(low, k)))
        elif word in ("and", "or"):
            chain.append((word, rng.randrange(low, k), rng.randrange(low, k)))
        else:
            chain.append((word, rng.choice(naive.WAYS), rng.randrange(low, k)))
    return tuple(chain)


class ExamplesTest(unittest.TestCase):
    def test_examples(self):
        self.assertEqual(chain_of(("and", ("point",), ("point",))), (("point",), ("and", 0, 0)))
        chain = (("fact", "on"), ("not", 0), ("all", "ends", 1))
        self.assertEqual(saying_of(chain), ("all", "ends", ("not", ("fact", "on"))))
        self.assertIs(keeps_future(((), ("on",), ("up",)), LATER), True)
        self.assertIs(keeps_future(((), (), ("up",)), LATER), False)
        self.assertIs(keeps_chain(((), ("on",), ("up",)), stretched(LATER)), True)

    def test_constants(self):
        self.assertEqual((MAX_LINES, MAX_CHAIN), (20000, 250000))


class CheckTest(unittest.TestCase):
    def refused(self, check, *chains):
        for chain in chains:
            with self.assertRaises(NotAllowed, msg=chain):
                check(FACTS, chain)

    def test_each_form(self):
        self.assertIsNone(check_chain(FACTS, STRETCH_LINES))
        self.assertIsNone(check_future(FACTS, FUTURE_LINES))
        for way in naive.WAYS:
            self.assertIsNone(check_chain(FACTS, (("point",), ("some", way, 0), ("all", way, 0))))

    def test_each_line_spoilt(self):
        for check, chain in ((check_chain, STRETCH_LINES), (check_future, FUTURE_LINES)):
            for at, line in enumerate(chain):
                ahead = chain[:at]
                spoilt = [line[:-1], line + (0,), line + ("on",), (), ("none",) + line[1:], ("",) + line[1:],
                          (3,) + line[1:], (("not",),) + line[1:]]
                for k, value in enumerate(line):
                    others = ["on", "other", "", (), ("on",), (0,)]
                    if isinstance(value, int):
                        others += [at, at + 1, -1, -at - 1, 10 ** 9]
                    else:
                        others += [0, 1, -1]
                    for other in others:
                        if k > 0 and (value, other) not in (("on", "on"), ("up", "on")):
                            spoilt.append(line[:k] + (other,) + line[k + 1:])
                self.refused(check, *[ahead + (other,) for other in spoilt])

    def test_words_of_the_other_kind_of_chain(self):
        for line in (("yes",), ("here", "on"), ("until", 0, 0)):
            self.refused(check_chain, (("point",), line))
        for line in (("fact", "on"), ("point",), ("some", "begins", 0), ("all", "begins", 0)):
            self.refused(check_future, (("yes",), line))

    def test_facts_and_ways_that_there_are_not(self):
        self.refused(check_chain, (("fact", "x"),), (("fact", "begins"),), (("fact", ""),))
        self.refused(check_chain, (("point",), ("some", "on", 0)), (("point",), ("all", "some", 0)))
        self.refused(check_future, (("here", "x"),), (("here", "yes"),))

    def test_numbers_of_lines(self):
        for line in (("not", 1), ("not", 2), ("not", -1), ("and", 0, 1), ("or", 1, 0), ("and", -1, 0)):
            self.refused(check_chain, (("point",), line))
            self.refused(check_future, (("yes",), line))
        self.refused(check_future, (("yes",), ("until", 0, 1)), (("yes",), ("until", 1, 0)))
        self.refused(check_chain, (("point",), ("some", "begins", 1)), (("not", 0),))

    def test_number_of_lines(self):
        self.refused(check_chain, ())
        self.refused(check_future, ())
        self.assertIsNone(check_future(FACTS, (("yes",),) * MAX_LINES))
        self.refused(check_future, (("yes",),) * (MAX_LINES + 1))
        self.assertIsNone(check_chain(FACTS, (("point",),) * MAX_CHAIN))
        self.refused(check_chain, (("point",),) * (MAX_CHAIN + 1))

    def test_a_bad_line_far_behind(self):
        self.refused(check_chain, (("point",),) * 1000 + (("not", 1000),))


class HoldsTest(unittest.TestCase):
    def test_each_line_of_all_stretches(self):
        rng = random.Random(61)
        for _ in range(60):
            facts = FACTS[:rng.randint(1, 2)]
            chain = random_chain(rng, facts, rng.randint(1, 8), 3)
            check_chain(facts, chain)
            run = tuple(rng.choice(naive.scenes(facts)) for _ in range(rng.randint(1, 6)))
            for i, j in naive.stretches(len(run)):
                expected = naive.chain_told(run, chain, len(chain) - 1, i, j)
                self.assertIs(chain_holds(run, chain, i, j), expected, (run, chain))
            expected = naive.chain_told(run, chain, len(chain) - 1, 0, len(run) - 1)
            self.assertIs(keeps_chain(run, chain), expected)

    def test_each_way_over_all_runs(self):
        for way in naive.WAYS:
            for word in ("some", "all"):
                for ahead in ((("fact", "on"),), (("fact", "on"), ("not", 0)), (("point",), ("fact", "on"), ("and", 0, 1))):
                    chain = ahead + ((word, way, len(ahead) - 1),)
                    for run in itertools.chain(*[naive.runs(("on",), many) for many in range(1, 6)]):
                        for i, j in naive.stretches(len(run)):
                            expected = naive.chain_told(run, chain, len(ahead), i, j)
                            self.assertIs(chain_holds(run, chain, i, j), expected)

    def test_what_the_saying_holds_of(self):
        rng = random.Random(62)
        for _ in range(80):
            saying = naive.random_saying(rng, FACTS, rng.randint(1, 9))
            run = tuple(rng.choice(naive.scenes(FACTS)) for _ in range(rng.randint(1, 6)))
            for i, j in naive.stretches(len(run)):
                self.assertIs(chain_holds(run, chain_of(saying), i, j), naive.told(run, saying, i, j))

    def test_only_the_last_line_counts(self):
        chain = (("fact", "on"), ("not", 0), ("point",))
        self.assertTrue(keeps_chain(((),), chain))
        self.assertFalse(keeps_chain(((), ()), chain))

    def test_places_that_are_no_stretch(self):
        for first, last in ((-1, 0), (1, 0), (0, 3), (3, 3), (-1, -1)):
            with self.assertRaises(NotAllowed):
                chain_holds(((), (), ()), (("point",),), first, last)

    def test_immensely_many_nodes(self):
        chain = (("fact", "on"),) + tuple(("and", k, k) for k in range(5000))
        self.assertTrue(keeps_chain((("on",), ("on",)), chain))
        self.assertFalse(keeps_chain((("on",), ()), chain))

    def test_great_chains(self):
        rng = random.Random(63)
        chain = random_chain(rng, FACTS, MAX_CHAIN, 40)
        run = tuple(rng.choice(naive.scenes(FACTS)) for _ in range(40))
        self.assertIn(keeps_chain(run, chain), (True, False))
        deep = (("point",),) + tuple(("some", "begun", k) for k in range(MAX_CHAIN - 1))
        self.assertFalse(keeps_chain(run, deep))

    def test_runs_of_more_than_forty_places(self):
        run = (("on",),) * 90 + ((),)
        self.assertTrue(chain_holds(run, (("fact", "on"), ("some", "begins", 0)), 0, 90))
        self.assertFalse(keeps_chain(run, (("fact", "on"), ("all", "begun", 0), ("some", "meets", 1), ("not", 2))))
        self.assertTrue(keeps_future(run, (("yes",), ("here", "on"), ("not", 1), ("until", 1, 2))))


class FutureTest(unittest.TestCase):
    def test_all_places_against_the_table(self):
        rng = random.Random(64)
        for _ in range(200):
            facts = FACTS[:rng.randint(1, 2)]
            chain = naive.random_future(rng, facts, rng.randint(1, 9))
            check_future(facts, chain)
            run = tuple(rng.choice(naive.scenes(facts)) for _ in range(rng.randint(1, 8)))
            table = naive.future_table(run, chain)
            for place in range(len(run)):
                self.assertIs(future_at(run, chain, place), table[-1][place], (run, chain, place))
            self.assertIs(keeps_future(run, chain), table[-1][0])

    def test_until_over_all_runs(self):
        for run in itertools.chain(*[naive.runs(FACTS, many) for many in range(1, 5)]):
            for chain in (LATER, (("yes",), ("not", 0), ("here", "on"), ("until", 1, 2)), (("here", "on"), ("until", 0, 0))):
                table = naive.future_table(run, chain)
                for place in range(len(run)):
                    self.assertIs(future_at(run, chain, place), table[-1][place])

    def test_places_that_there_are_not(self):
        for place in (-1, 2, 5):
            with self.assertRaises(NotAllowed):
                future_at(((), ()), (("yes",),), place)


class SayingTest(unittest.TestCase):
    def test_depth_and_ways_of_the_last_line(self):
        chain = (("point",), ("some", "later", 0), ("all", "begun", 1), ("not", 0), ("some", "ends", 3))
        self.assertEqual((chain_depth(chain), chain_ways(chain)), (1, ("ends",)))
        chain = chain[:3] + (("and", 2, 1), ("some", "begun", 3))
        self.assertEqual((chain_depth(chain), chain_ways(chain)), (3, ("begun", "later")))
        self.assertEqual((chain_depth((("point",),)), chain_ways((("point",),))), (0, ()))

    def test_depth_and_ways_of_sayings(self):
        rng = random.Random(65)
        for _ in range(100):
            saying = naive.random_saying(rng, FACTS, rng.randint(1, 30))
            chain = chain_of(saying)
            self.assertEqual((chain_depth(chain), chain_ways(chain)), (depth_of(saying), ways_in(saying)))

    def test_one_line_for_each_different_part_in_order(self):
        rng = random.Random(66)
        for _ in range(200):
            saying = naive.random_saying(rng, FACTS, rng.randint(1, 30))
            chain = chain_of(saying)
            parts = []
            for part, _ in naive.parts(saying):
                if part not in parts:
                    parts.append(part)
            self.assertEqual(len(chain), len(parts))
            self.assertEqual([saying_of(chain[:at + 1]) for at in range(len(chain))], parts)
            check_chain(FACTS, chain)

    def test_thirty_nodes_and_more(self):
        deep = (("point",),) + tuple(("not", k) for k in range(29))
        self.assertEqual(count_nodes(saying_of(deep)), 30)
        with self.assertRaises(TooLarge):
            saying_of(deep + (("not", 29),))
        fifteen = (("point",),) + tuple(("not", k) for k in range(13)) + (("fact", "on"),)
        self.assertEqual(count_nodes(saying_of(fifteen + (("and", 13, 14),))), 16)
        with self.assertRaises(TooLarge):
            saying_of(fifteen + (("and", 13, 13), ("or", 15, 14)))
        self.assertEqual(count_nodes(saying_of(fifteen + (("and", 13, 13),))), 29)

    def test_lines_that_are_not_needed_may_be_large(self):
        chain = (("fact", "on"),) + tuple(("or", k, k) for k in range(60)) + (("not", 0),)
        self.assertEqual(saying_of(chain), ("not", ("fact", "on")))

    def test_immensely_many_nodes(self):
        chain = (("fact", "on"),) + tuple(("and", k, k) for k in range(20000))
        with self.assertRaises(TooLarge):
            saying_of(chain)
        self.assertEqual(count_nodes(saying_of(chain[:4])), 15)


class StretchedTest(unittest.TestCase):
    def compare(self, facts, chain, most):
        longer = stretched(chain)
        check_chain(facts, longer)
        self.assertLessEqual(len(longer), 10 * len(chain) + 10)
        for many in range(1, most + 1):
            for run in naive.runs(facts, many):
                table = naive.future_table(run, chain)
                for place in range(many):
                    expected = table[-1][place]
                    self.assertIs(chain_holds(run, longer, place, many - 1), expected, (run, chain, place))

    def test_each_line(self):
        for chain in (
            (("yes",),), (("here", "up"),), (("here", "on"), ("not", 0)), (("here", "on"), ("here", "up"), ("and", 0, 1)),
            (("here", "on"), ("here", "up"), ("or", 0, 1)), LATER, (("yes",), ("not", 0), ("until", 1, 0)),
            (("yes",), ("until", 0, 0), ("yes",)), (("here", "on"), ("until", 0, 0), ("not", 1), ("until", 2, 0)),
        ):
            self.compare(FACTS, chain, 4)

    def test_random_chains_over_one_fact_and_two(self):
        rng = random.Random(67)
        for _ in range(40):
            facts = FACTS[:rng.randint(1, 2)]
            self.compare(facts, naive.random_future(rng, facts, rng.randint(1, 10)), 5 - len(facts))

    def test_many_lines(self):
        for word in ("until", "not"):
            chain = [("here", "on")]
            while len(chain) < MAX_LINES:
                chain.append((word, len(chain) - 1, 0) if word == "until" else (word, len(chain) - 1))
            longer = stretched(tuple(chain))
            self.assertLessEqual(len(longer), 10 * MAX_LINES + 10)
            check_chain(FACTS, longer)
            run = (("on",), (), ("on",))
            self.assertIs(keeps_chain(run, longer), keeps_future(run, tuple(chain)))


if __name__ == "__main__":
    unittest.main()
