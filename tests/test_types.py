"""types.py: [4.1] to [4.4] and its interface."""

import random
import unittest

from spansay import types
from spansay.errors import NotAllowed
from spansay.types import check_ways, parted_at, types_of
from tests import naive

RUN = (("on",), (), ("on",))
SOME_WAYS = (
    (), ("begins",), ("ends",), ("met",), ("later",), ("overlapped",), ("begins", "ended"),
    ("during", "around", "meets"), ("begun", "later", "overlaps"), naive.WAYS,
)


def numbers_by_definition(runs, ways, depth, known):
    """The numbers of [4.3], comparing each stretch with the first ones of all types."""
    firsts = []
    rows = []
    for run in runs:
        row = []
        for stretch in naive.stretches(len(run)):
            one = (run, stretch)
            for number, other in enumerate(firsts):
                if naive.same_type(one, other, ways, depth, known):
                    break
            else:
                number = len(firsts)
                firsts.append(one)
            row.append(number)
        rows.append(tuple(row))
    return tuple(rows)


class WaysTest(unittest.TestCase):
    def test_constant(self):
        self.assertEqual(types.MAX_DEPTH, 6)

    def test_ways(self):
        for ways in SOME_WAYS:
            self.assertIsNone(check_ways(ways))
        for way in naive.WAYS:
            self.assertIsNone(check_ways((way,)))

    def test_no_ways(self):
        for ways in (
            ("ends", "begins"), ("begins", "begins"), ("begins", "ends", "begins"), ("on",), ("",),
            ("begins", "point"), naive.WAYS + ("begins",), naive.WAYS[::-1], ("met", "meets"), ("Begins",),
            ("begins", "overlapped", "overlaps"), naive.WAYS + ("overlapped",), ("begins ",), ("some",),
        ):
            with self.assertRaises(NotAllowed, msg=ways):
                check_ways(ways)


class TypesTest(unittest.TestCase):
    def test_examples(self):
        self.assertEqual(types_of((RUN,), ("ends",), 0), ((0, 1, 1, 2, 1, 0),))
        self.assertEqual(types_of((RUN,), ("ends",), 1), ((0, 1, 2, 3, 4, 0),))

    def test_depth_0(self):
        run = (("on", "up"), ("on", "up"), ("up",), ())
        self.assertEqual(types_of((run,), naive.WAYS, 0), ((0, 1, 2, 3, 0, 2, 3, 4, 3, 5),))
        self.assertEqual(types_of((run,), (), 6), types_of((run,), naive.WAYS, 0))
        self.assertEqual(types_of((((),), (("on",),), ((),)), (), 0), ((0,), (1,), (0,)))

    def test_by_definition(self):
        rng = random.Random(91)
        facts = ("on", "up")
        for ways in SOME_WAYS:
            for many in (1, 2, 3, 4):
                runs = tuple(
                    tuple(rng.choice(naive.scenes(facts)[:3]) for _ in range(rng.randint(1, 4)))
                    for _ in range(many)
                )
                known = {}
                for depth in range(7):
                    expected = numbers_by_definition(runs, ways, depth, known)
                    self.assertEqual(types_of(runs, ways, depth), expected, (runs, ways, depth))

    def test_each_way_by_definition(self):
        runs = (((),) * 5, (("on",), (), ("on",), (), ()))
        for way in naive.WAYS:
            known = {}
            for depth in (1, 2, 3):
                expected = numbers_by_definition(runs, (way,), depth, known)
                self.assertEqual(types_of(runs, (way,), depth), expected, (way, depth))

    def test_no_saying_tells_equal_types_apart(self):
        rng = random.Random(92)
        facts = ("on",)
        for _ in range(300):
            ways = tuple(way for way in naive.WAYS if rng.random() < 0.3)
            saying = naive.random_saying(rng, facts, rng.randint(1, 8), ways or ("met",))
            if not ways and "met" in str(saying):
                continue
            runs = tuple(
                tuple(rng.choice(naive.scenes(facts)) for _ in range(rng.randint(1, 4))) for _ in range(2)
            )
            depth = str(saying).count("'some'") + str(saying).count("'all'")
            told = {}
            for run, numbers in zip(runs, types_of(runs, ways, min(depth, 6))):
                for stretch, number in zip(naive.stretches(len(run)), numbers):
                    held = naive.told(run, saying, *stretch)
                    self.assertEqual(told.setdefault(number, held), held, (saying, runs, stretch))

    def test_one_run_twice(self):
        rng = random.Random(93)
        run = tuple(rng.choice([(), ("on",)]) for _ in range(12))
        found = types_of((run, run, run, run), naive.WAYS, 3)
        self.assertEqual(len(found), 4)
        self.assertEqual(found[1:], found[:1] * 3)

    def test_greater_depths_tell_the_lesser_ones(self):
        rng = random.Random(94)
        runs = tuple(tuple(rng.choice([(), ("on",)]) for _ in range(9)) for _ in range(3))
        for ways in SOME_WAYS:
            coarse = sum(types_of(runs, ways, 0), ())
            for depth in range(1, 7):
                fine = sum(types_of(runs, ways, depth), ())
                self.assertEqual(len(set(zip(fine, coarse))), len(set(fine)))
                coarse = fine

    def test_runs_of_40_places(self):
        run = ((),) * 40
        for depth in range(7):
            (found,) = types_of((run,), ("begins",), depth)
            expected = tuple(min(j - i, depth + 1) for i, j in naive.stretches(40))
            self.assertEqual(found, expected)
            (found,) = types_of((run,), ("later",), depth)
            self.assertEqual(len(set(found)), len(set(later_types(40, depth).values())), depth)
        rng = random.Random(95)
        runs = tuple(tuple(rng.choice([(), ("on",), ("up",)]) for _ in range(40)) for _ in range(4))
        found = types_of(runs, naive.WAYS, 6)
        self.assertEqual([len(row) for row in found], [820] * 4)
        self.assertEqual(found[0][0], 0)


def later_types(many, depth):
    """The types of the stretches of a run without facts by `later` alone, as nested sets."""
    known = {(i, j): (i == j, None) for i, j in naive.stretches(many)}
    names = {value: k for k, value in enumerate(sorted(set(map(str, known.values()))))}
    known = {s: names[str(value)] for s, value in known.items()}
    first = dict(known)
    for _ in range(depth):
        finer = {}
        behind = {j: frozenset(known[s] for s in known if s[0] > j) for j in range(many)}
        for (i, j) in known:
            finer[(i, j)] = (first[(i, j)], behind[j])
        names = {}
        known = {s: names.setdefault(value, len(names)) for s, value in finer.items()}
    return known


class PartedTest(unittest.TestCase):
    def test_examples(self):
        self.assertEqual(parted_at(RUN, RUN + RUN, ("begins",)), 2)
        self.assertIsNone(parted_at(RUN, RUN, ("begins",)))

    def test_it_is_the_least_depth(self):
        rng = random.Random(96)
        for _ in range(300):
            ways = rng.choice(SOME_WAYS)
            first, second = [
                tuple(rng.choice([(), ("on",)]) for _ in range(rng.randint(1, 6))) for _ in range(2)
            ]
            expected = None
            for depth in range(12):
                one, other = types_of((first, second), ways, depth)
                if one[len(first) - 1] != other[len(second) - 1]:
                    expected = depth
                    break
            self.assertEqual(parted_at(first, second, ways), expected, (first, second, ways))
            self.assertEqual(parted_at(second, first, ways), expected)

    def test_runs_that_are_alike(self):
        for ways in SOME_WAYS:
            self.assertIsNone(parted_at(RUN, RUN, ways))
        self.assertIsNone(parted_at(((),) * 40, ((),) * 40, naive.WAYS))
        self.assertIsNone(parted_at((("on",), ()), (("on",), (), ("on",)), ()))
        self.assertIsNone(parted_at(((),) * 39, ((),) * 40, ("meets", "later")))

    def test_great_depths(self):
        for many in (2, 3, 10, 39):
            run = ((),) * many
            self.assertEqual(parted_at(run, run + ((),), ("begins",)), many - 1)
            self.assertEqual(parted_at(run + ((),), run, ("ends",)), many - 1)
            self.assertEqual(parted_at(run, run + ((),), ("during",)), many // 2)
        self.assertEqual(parted_at(((),), (("on",),), naive.WAYS), 0)
        self.assertEqual(parted_at(((),), ((), ()), ()), 0)

    def test_more_ways_part_earlier(self):
        first, second = ((),) * 39, ((),) * 40
        for ways in (("begins", "ends"), ("begins", "begun", "ends", "ended"), naive.WAYS):
            found = parted_at(first, second, ways)
            self.assertLessEqual(found, 38)
            one, other = types_of((first, second), ways, found)
            self.assertNotEqual(one[38], other[39])
            one, other = types_of((first, second), ways, found - 1)
            self.assertEqual(one[38], other[39])


if __name__ == "__main__":
    unittest.main()
