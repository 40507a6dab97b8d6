"""least.py: [2.7] and its interface."""

import random
import unittest

from spansay.errors import NotAllowed, TooLarge
from spansay.least import are_alike, count_kept, first_kept, first_parting, machine_of
from spansay.sayingtexts import read_saying
from tests import naive
from tests.test_takers import BEYOND_THE_BOUNDS, FACTS, WITHIN_THE_BOUNDS

ON = ("fact", "on")
POINT = ("point",)
EVER = ("or", POINT, ("not", POINT))
NEVER = ("and", POINT, ("not", POINT))


def runs_up_to(facts, many):
    for length in range(1, many + 1):
        yield from naive.runs(facts, length)


def sayings(seed, many):
    rng = random.Random(seed)
    for _ in range(many):
        facts = FACTS[:rng.randint(1, 2)]
        yield facts, naive.random_saying(rng, facts, rng.randint(1, 9))


class MachineTest(unittest.TestCase):
    def test_against_the_meaning_over_all_runs(self):
        for facts, saying in sayings(61, 80):
            machine = machine_of(facts, saying)
            self.assertEqual(machine[0], tuple(naive.scenes(facts)))
            self.assertEqual(naive.room(machine, ()) in machine[2], False)
            for run in runs_up_to(facts, 8 - 2 * len(facts)):
                self.assertEqual(naive.room(machine, run) in machine[2], naive.kept(run, saying))

    def test_each_way(self):
        for way in naive.WAYS:
            for word in ("some", "all"):
                for part in (ON, ("some", "during", ON), ("all", "meets", ("or", POINT, ON))):
                    saying = (word, way, part)
                    machine = machine_of(("on",), saying)
                    for run in runs_up_to(("on",), 5):
                        kept = naive.room(machine, run) in machine[2]
                        self.assertEqual(kept, naive.kept(run, saying), (saying, run))

    def test_it_is_least_with_its_rooms_in_order(self):
        for facts, saying in sayings(62, 80):
            letters, moves, lets = machine_of(facts, saying)
            goods = [room in lets for room in range(len(moves))]
            self.assertEqual(naive.least(letters, moves, goods)[0], (letters, moves, lets))

    def test_by_hand(self):
        self.assertEqual(machine_of(("on",), NEVER), (((), ("on",)), ((0, 0),), ()))
        self.assertEqual(machine_of(("on",), EVER), (((), ("on",)), ((1, 1), (1, 1)), (1,)))
        self.assertEqual(machine_of(("on",), POINT), (((), ("on",)), ((1, 1), (2, 2), (2, 2)), (1,)))
        saying = ("or", ON, ("not", ("some", "begins", ON)))
        self.assertEqual(
            machine_of(("on",), saying), (((), ("on",)), ((1, 2), (1, 1), (3, 2), (3, 3)), (1, 2)),
        )


class FirstTest(unittest.TestCase):
    def test_examples(self):
        self.assertEqual(
            first_kept(("on",), ("and", ("not", ON), ("some", "ends", ON))), ((), ("on",)),
        )
        self.assertEqual(
            first_parting(("on",), ("some", "begins", ON), ("some", "ends", ON)), ((), ("on",)),
        )
        self.assertEqual(count_kept(("on",), ("not", ("some", "during", ON)), 3), 4)

    def test_first_kept(self):
        for facts, saying in sayings(63, 150):
            found = first_kept(facts, saying)
            many = 8 - 2 * len(facts)
            expected = next((run for run in runs_up_to(facts, many) if naive.kept(run, saying)), None)
            if found is None or len(found) <= many:
                self.assertEqual(found, expected, saying)
            else:
                self.assertIsNone(expected)
                self.assertTrue(naive.kept(found, saying))

    def test_first_kept_of_many_places(self):
        long = POINT
        for _ in range(25):
            long = ("some", "begins", long)
        self.assertEqual(first_kept(("on",), long), ((),) * 26)
        self.assertIsNone(first_kept(("on",), NEVER))
        self.assertIsNone(first_kept(("on",), ("and", POINT, ("some", "during", ON))))

    def test_first_parting(self):
        both = list(zip(sayings(64, 200), sayings(65, 200)))
        for (facts, first), (others, second) in both:
            if facts != others:
                continue
            found = first_parting(facts, first, second)
            many = 7 - 2 * len(facts)
            expected = next(
                (run for run in runs_up_to(facts, many)
                 if naive.kept(run, first) != naive.kept(run, second)), None,
            )
            if found is None or len(found) <= many:
                self.assertEqual(found, expected, (first, second))
            self.assertIs(are_alike(facts, first, second), found is None)
            self.assertEqual(first_parting(facts, second, first), found)

    def test_alike(self):
        within = ("some", "ends", ("some", "begins", ON))
        for first, second in (
            (("not", ("some", "met", ON)), ("all", "met", ("not", ON))), (ON, ("not", ("not", ON))),
            (("some", "begun", ON), NEVER), (("all", "later", NEVER), EVER),
            (("some", "during", ON), within),
        ):
            self.assertIs(are_alike(("on",), first, second), True, (first, second))
            self.assertIsNone(first_parting(("on",), first, second))
        self.assertIs(are_alike(("on",), within, ("some", "begins", ON)), False)
        self.assertEqual(first_parting(("on",), within, ("some", "begins", ON)), (("on",), ()))


class CountTest(unittest.TestCase):
    def test_counts(self):
        for facts, saying in sayings(66, 40):
            for many in range(1, 8 - 2 * len(facts)):
                expected = sum(naive.kept(run, saying) for run in naive.runs(facts, many))
                self.assertEqual(count_kept(facts, saying, many), expected)

    def test_0_1_200_and_201(self):
        self.assertEqual(count_kept(FACTS, EVER, 1), 8)
        self.assertEqual(count_kept(FACTS, EVER, 200), 8 ** 200)
        self.assertEqual(count_kept(FACTS, ("some", "ends", ON), 200), 8 ** 199 * 4)
        self.assertEqual(count_kept(FACTS, NEVER, 200), 0)
        for many in (0, 201, -1, 1000):
            with self.assertRaises(NotAllowed, msg=many):
                count_kept(FACTS, EVER, many)


class TooLargeTest(unittest.TestCase):
    def test_all_functions(self):
        for many, _, _, text in BEYOND_THE_BOUNDS:
            facts = FACTS[:many]
            large = read_saying(facts, text)
            for call in (
                lambda: machine_of(facts, large), lambda: first_kept(facts, large),
                lambda: first_parting(facts, large, ON), lambda: first_parting(facts, ON, large),
                lambda: are_alike(facts, large, ON), lambda: are_alike(facts, ON, large),
                lambda: are_alike(facts, large, large), lambda: count_kept(facts, large, 1),
            ):
                with self.assertRaises(TooLarge):
                    call()

    def test_not_allowed_comes_ahead(self):
        many, _, _, text = BEYOND_THE_BOUNDS[2]
        large = read_saying(FACTS[:many], text)
        for number in (0, 201):
            with self.assertRaises(NotAllowed):
                count_kept(FACTS[:many], large, number)

    def test_those_within_the_bounds(self):
        for many, _, _, text in WITHIN_THE_BOUNDS[:3]:
            facts = FACTS[:many]
            saying = read_saying(facts, text)
            self.assertIs(are_alike(facts, saying, saying), True)
            self.assertEqual(
                count_kept(facts, saying, 2), sum(naive.kept(run, saying) for run in naive.runs(facts, 2)),
            )


if __name__ == "__main__":
    unittest.main()
