"""readings.py: [7.6], with [7.1] to [7.4]."""

import random
import unittest

from spansay.errors import NotAllowed, TooLarge
from spansay.readings import count_told, first_parted, first_told
from spansay.sayingtexts import read_saying
from spansay.takers import taker_of
from spansay.tracks import holds_of, reader_of
from tests import naive
from tests import test_takers, test_tracks
from tests.test_tracks import FACTS, SYSTEM, SYSTEMS

ON = ("fact", "on")
POINT = ("point",)
ONE = (((),), (0,), ((0,),))


class ExamplesTest(unittest.TestCase):
    def test_examples(self):
        self.assertIsNone(first_parted(("on",), SYSTEM, ("some", "begun", POINT)))
        self.assertEqual(first_parted(("on",), SYSTEM, ("some", "later", ON)), (0,))
        self.assertEqual(first_told(SYSTEM, ON, False), (0,))
        self.assertEqual(count_told(SYSTEM, ("not", ("some", "ends", ON)), 3), 1)


class WalksTest(unittest.TestCase):
    def compare(self, facts, system, saying, most):
        """Compare with plain walks over the tracks of up to so many states."""
        tracks = naive.tracks_up_to(system, most)
        told = {track: naive.path_holds(system, saying, track, reader_of) for track in tracks}
        parted = [track for track in tracks if told[track] != naive.kept(naive.run_of(system, track), saying)]
        self.first(first_parted(facts, system, saying), parted, most)
        for is_told in (True, False):
            found = [track for track in tracks if told[track] == is_told]
            self.first(first_told(system, saying, is_told), found, most)
        for many in range(1, most + 1):
            expected = sum(told[track] for track in tracks if len(track) == many)
            self.assertEqual(count_told(system, saying, many), expected)
        return len(parted) > 0

    def first(self, found, expected, most):
        if expected:
            self.assertEqual(found, expected[0])
        else:
            self.assertTrue(found is None or len(found) > most)

    def test_each_way(self):
        parted = {}
        for system in SYSTEMS:
            for way in naive.WAYS:
                for word in ("some", "all"):
                    for part in (ON, POINT, ("not", ON)):
                        is_parted = self.compare(("on", "up"), system, (word, way, part), 4)
                        parted[way] = parted.get(way, False) or is_parted
        # Only what looks beyond the track may part the readings.
        self.assertEqual([way for way in naive.WAYS if not parted[way]], ["begins", "ends", "during"])

    def test_random_sayings(self):
        rng = random.Random(111)
        parted = 0
        for _ in range(150):
            facts = FACTS[:rng.randint(1, 2)]
            system = naive.random_system(rng, facts, rng.randint(1, 3))
            parted += self.compare(facts, system, naive.random_saying(rng, facts, rng.randint(1, 7)), 5)
        self.assertGreater(parted, 10)

    def test_begins_ends_and_during_never_part(self):
        rng = random.Random(112)
        for _ in range(150):
            facts = FACTS[:rng.randint(1, 2)]
            system = naive.random_system(rng, facts, rng.randint(1, 4))
            saying = naive.random_saying(rng, facts, rng.randint(1, 8), ("begins", "ends", "during"))
            self.assertIsNone(first_parted(facts, system, saying))

    def test_the_order_of_tracks(self):
        system = (((), (), ("on",), ("on",)), (0, 1), ((2, 3), (2,), (2,), ()))
        self.assertEqual(first_told(system, ("some", "ends", ON), True), (0, 2))
        self.assertEqual(first_told(system, ("not", ("some", "later", ON)), True), (0, 3))
        self.assertEqual(first_parted(("on",), system, ("some", "later", ON)), (0,))


class CountTest(unittest.TestCase):
    def test_bounds(self):
        every = ("or", POINT, ("not", POINT))
        system = (((), ("on",)), (0, 1), ((0, 1), (0, 1)))
        self.assertEqual(count_told(system, every, 1), 2)
        self.assertEqual(count_told(system, every, 200), 2 ** 200)
        self.assertEqual(count_told(system, ("not", every), 200), 0)
        for many in (0, 201, -1, 10 ** 6):
            with self.assertRaises(NotAllowed):
                count_told(system, every, many)

    def test_not_allowed_ahead_of_too_large(self):
        for _, _, system, text in test_tracks.BEYOND_THE_BOUNDS:
            saying = read_saying(FACTS, text)
            for many in (0, 201):
                with self.assertRaises(NotAllowed):
                    count_told(system, saying, many)
            for many in (1, 200):
                with self.assertRaises(TooLarge):
                    count_told(system, saying, many)


class BoundsTest(unittest.TestCase):
    def test_readers_that_are_too_large(self):
        for _, _, system, text in test_tracks.BEYOND_THE_BOUNDS:
            saying = read_saying(FACTS, text)
            self.assertIsNotNone(taker_of(FACTS, saying))
            for call in (
                lambda: first_told(system, saying, True),
                lambda: first_told(system, saying, False),
                lambda: first_parted(FACTS, system, saying),
            ):
                with self.assertRaises(TooLarge):
                    call()

    def test_takers_that_are_too_large(self):
        for many, _, _, text in test_takers.BEYOND_THE_BOUNDS:
            saying = read_saying(FACTS, text)
            with self.assertRaises(TooLarge):
                first_parted(FACTS[:many], ONE, saying)
            # The reader of a small system is not too large: so tracks are told.
            told = holds_of(ONE, saying, (0,))
            self.assertEqual(first_told(ONE, saying, told), (0,))

    def test_within_the_bounds(self):
        for many, _, _, text in test_takers.WITHIN_THE_BOUNDS[:3]:
            saying = read_saying(FACTS, text)
            found = first_parted(FACTS[:many], ONE, saying)
            self.assertTrue(found is None or set(found) == {0})


if __name__ == "__main__":
    unittest.main()
