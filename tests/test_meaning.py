"""meaning.py: [1.3], [1.4] and its interface."""

import random
import unittest

from spansay.errors import NotAllowed
from spansay.meaning import holds, keeps, reached
from spansay.sayingtexts import read_saying
from tests import naive

ON = ("fact", "on")
NO_STRETCHES = ((-1, 0), (0, -1), (1, 0), (0, 3), (3, 3), (-2, -1), (2, 1), (5, 7), (-1, 2))


class ReachedTest(unittest.TestCase):
    def test_example(self):
        self.assertEqual(reached(4, "overlaps", 0, 2), [(1, 3), (2, 3)])

    def test_each_way_against_its_row_of_the_table(self):
        for many in range(1, 8):
            for way in naive.WAYS:
                for stretch in naive.stretches(many):
                    expected = naive.reached(many, way, *stretch)
                    self.assertEqual(reached(many, way, *stretch), expected, (many, way, stretch))

    def test_rows_of_the_table_by_hand(self):
        for way, expected in (
            ("begins", [(2, 2), (2, 3)]), ("begun", [(2, 5), (2, 6)]),
            ("ends", [(3, 4), (4, 4)]), ("ended", [(0, 4), (1, 4)]), ("during", [(3, 3)]),
            ("around", [(0, 5), (0, 6), (1, 5), (1, 6)]), ("meets", [(4, 4), (4, 5), (4, 6)]),
            ("met", [(0, 2), (1, 2), (2, 2)]), ("later", [(5, 5), (5, 6), (6, 6)]),
            ("earlier", [(0, 0), (0, 1), (1, 1)]),
            ("overlaps", [(3, 5), (3, 6), (4, 5), (4, 6)]),
            ("overlapped", [(0, 2), (0, 3), (1, 2), (1, 3)]),
        ):
            self.assertEqual(reached(7, way, 2, 4), expected, way)

    def test_a_stretch_of_one_place(self):
        self.assertEqual(reached(1, "meets", 0, 0), [(0, 0)])
        self.assertEqual(reached(1, "met", 0, 0), [(0, 0)])
        for way in naive.WAYS:
            if way not in ("meets", "met"):
                self.assertEqual(reached(1, way, 0, 0), [], way)

    def test_no_stretches(self):
        for first, last in NO_STRETCHES:
            for way in naive.WAYS:
                with self.assertRaises(NotAllowed, msg=(way, first, last)):
                    reached(3, way, first, last)

    def test_many_places(self):
        self.assertEqual(reached(100000, "begins", 7, 9), [(7, 7), (7, 8)])
        self.assertEqual(reached(40, "around", 1, 38), [(0, 39)])

    def test_a_new_list(self):
        found = reached(4, "during", 0, 3)
        found.clear()
        self.assertEqual(reached(4, "during", 0, 3), [(1, 1), (1, 2), (2, 2)])


class HoldsTest(unittest.TestCase):
    run_of_three = (("on",), (), ("on", "up"))

    def test_examples(self):
        run = self.run_of_three
        self.assertIs(holds(run, ("some", "meets", ("fact", "up")), 0, 2), True)
        self.assertIs(holds(run, ("all", "begins", ("fact", "on")), 0, 2), False)
        self.assertIs(keeps(run, ("some", "ends", ("fact", "on"))), True)

    def test_plain_ones(self):
        run = self.run_of_three
        for text, expected in (
            ("on", [True, False, False, False, False, True]),
            ("up", [False, False, False, False, False, True]),
            ("point", [True, False, False, True, False, True]),
            ("not point", [False, True, True, False, True, False]),
            ("on and point", [True, False, False, False, False, True]),
            ("up or not on", [False, True, True, True, True, True]),
        ):
            saying = read_saying(("on", "up"), text)
            found = [holds(run, saying, *stretch) for stretch in naive.stretches(3)]
            self.assertEqual(found, expected, text)
            for value in found:
                self.assertIsInstance(value, bool)

    def test_each_way_against_its_row_of_the_table(self):
        facts = ("on",)
        for many in range(1, 5):
            for run in naive.runs(facts, many):
                for way in naive.WAYS:
                    for word in ("some", "all"):
                        for part in (ON, ("not", ON)):
                            self.compare(run, (word, way, part))

    def test_random_sayings(self):
        rng = random.Random(21)
        facts = ("on", "up", "x")
        for _ in range(400):
            saying = naive.random_saying(rng, facts, rng.randint(1, 9))
            run = tuple(rng.choice(naive.scenes(facts)) for _ in range(rng.randint(1, 6)))
            self.compare(run, saying)

    def compare(self, run, saying):
        for stretch in naive.stretches(len(run)):
            expected = naive.told(run, saying, *stretch)
            self.assertIs(holds(run, saying, *stretch), expected, (run, saying, stretch))
        self.assertIs(keeps(run, saying), naive.kept(run, saying))

    def test_no_stretches(self):
        for first, last in NO_STRETCHES:
            with self.assertRaises(NotAllowed, msg=(first, last)):
                holds(self.run_of_three, ON, first, last)

    def test_runs_of_40_places_and_sayings_of_30_nodes(self):
        rng = random.Random(22)
        run = tuple(rng.choice([(), ("on",), ("on",)]) for _ in range(40))
        for way in naive.WAYS:
            one = ("some", way, ("and", ON, ("not", ("point",))))
            for stretch in ((0, 39), (5, 20), (17, 17)):
                self.assertIs(holds(run, one, *stretch), naive.told(run, one, *stretch))
        saying = ON
        for _ in range(29):
            saying = ("some", "meets", saying)
        self.assertIs(keeps(run, saying), "on" in run[39])
        saying = ("not", ("point",))
        for _ in range(28):
            saying = ("all", "begins", ("or", ("point",), saying)) if _ % 4 == 0 else ("not", saying)
        self.assertIs(keeps(((),) * 40, saying), keeps(((),) * 39, saying))

    def test_forty_places_by_count(self):
        long = ("point",)
        for _ in range(20):
            long = ("some", "begins", long)
        for many in range(1, 41):
            self.assertIs(keeps(((),) * many, long), many >= 21, many)


if __name__ == "__main__":
    unittest.main()
