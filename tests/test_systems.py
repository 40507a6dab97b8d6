"""systems.py: [6.1], [6.2], [6.6]."""

import itertools
import random
import unittest

from spansay.errors import NotAllowed, TooLarge
from spansay.machines import check_machine, least_machine
from spansay.systems import MAX_STATES, check_system, is_path, is_track, machine_of_runs, run_of
from tests import naive

ON = ("on",)
FACTS = ("on", "up")
SYSTEM = (((), ("on",)), (0,), ((0, 1), (1,)))


def line_of(many):
    """A system whose runs have 1 to so many places, all of them without facts."""
    moves = tuple((at + 1,) if at + 1 < many else () for at in range(many))
    return (((),) * many, (0,), moves)


class CheckTest(unittest.TestCase):
    def refused(self, *systems):
        for system in systems:
            with self.assertRaises(NotAllowed, msg=system):
                check_system(FACTS, system)

    def test_systems(self):
        for system in (
            SYSTEM, (((),), (0,), ((),)), (((),), (0,), ((0,),)), (((),) * 8, tuple(range(8)), (tuple(range(8)),) * 8),
            ((("on",), ("on",)), (1,), ((), ())), ((("on", "up"), ("up",)), (0, 1), ((1,), (0,))),
        ):
            self.assertIsNone(check_system(FACTS, system))
        rng = random.Random(91)
        for _ in range(50):
            self.assertIsNone(check_system(FACTS, naive.random_system(rng, FACTS, rng.randint(1, MAX_STATES))))

    def test_number_of_states(self):
        self.refused(((), (0,), ()), ((), (), ()), (((),) * 9, (0,), ((),) * 9))
        self.assertIsNone(check_system(FACTS, (((),) * 8, (0,), ((),) * 8)))

    def test_scenes(self):
        for scene in (("x",), ("up", "on"), ("on", "on"), ("",), ("on", "up", "x"), ("-",)):
            self.refused(((scene, ()), (0,), ((), ())), (((), scene), (0,), ((), ())))

    def test_first_states(self):
        scenes = ((), (), ())
        for firsts in ((), (1, 0), (0, 0), (0, 2, 1), (3,), (-1,), (-1, 0), (0, 3), (0, 1, 1)):
            self.refused((scenes, firsts, ((), (), ())))

    def test_moves(self):
        scenes = ((), (), ())
        for row in ((1, 0), (0, 0), (3,), (-1,), (0, 3), (-1, 0), (0, 2, 2), (0, 1, 2, 3)):
            for at in range(3):
                self.refused((scenes, (0,), ((),) * at + (row,) + ((),) * (2 - at)))
        for many in (0, 1, 2, 4):
            self.refused((scenes, (0,), ((),) * many))


class RowsTest(unittest.TestCase):
    def test_examples(self):
        self.assertEqual(run_of(SYSTEM, (0, 0, 1)), ((), (), ("on",)))
        self.assertIs(is_track(SYSTEM, (1, 1)), False)
        machine = (((), ("on",)), ((1, 2), (1, 3), (2, 2), (2, 3)), (1, 3))
        self.assertEqual(machine_of_runs(ON, SYSTEM), machine)

    def test_all_rows(self):
        rng = random.Random(92)
        for _ in range(30):
            system = naive.random_system(rng, FACTS, rng.randint(1, 3))
            states = range(-1, len(system[0]) + 1)
            for many in range(4):
                paths = naive.paths(system, many) if many else []
                for row in itertools.product(states, repeat=many):
                    self.assertIs(is_path(system, row), row in paths)
                    self.assertIs(is_track(system, row), row in paths and row[0] in system[1])
                    if row in paths:
                        self.assertEqual(run_of(system, row), naive.run_of(system, row))
                    else:
                        with self.assertRaises(NotAllowed):
                            run_of(system, row)

    def test_the_empty_row(self):
        self.assertIs(is_path(SYSTEM, ()), False)
        self.assertIs(is_track(SYSTEM, ()), False)
        with self.assertRaises(NotAllowed):
            run_of(SYSTEM, ())

    def test_long_paths(self):
        self.assertEqual(run_of(SYSTEM, (0,) + (1,) * 300), ((),) + (("on",),) * 300)
        self.assertFalse(is_path(SYSTEM, (0,) + (1,) * 300 + (0,)))


class RunsTest(unittest.TestCase):
    def compare(self, facts, system, many):
        machine = machine_of_runs(facts, system)
        check_machine(machine)
        self.assertEqual(least_machine(machine), machine)
        self.assertEqual(machine[0], tuple(naive.scenes(facts)))
        self.assertFalse(naive.lets(machine, ()))
        for length in range(1, many + 1):
            runs = {naive.run_of(system, track) for track in naive.tracks(system, length)}
            for run in naive.runs(facts, length):
                self.assertEqual(naive.lets(machine, run), run in runs, (system, run))

    def test_all_runs(self):
        rng = random.Random(93)
        for _ in range(60):
            facts = FACTS[:rng.randint(1, 2)]
            self.compare(facts, naive.random_system(rng, facts, rng.randint(1, 5)), 6 - len(facts))

    def test_one_state(self):
        self.compare(ON, (((),), (0,), ((),)), 4)
        self.compare(ON, ((("on",),), (0,), ((0,),)), 4)

    def test_states_with_the_same_scene(self):
        self.compare(ON, (((), (), ("on",)), (0, 1), ((1, 2), (0,), (2,))), 6)

    def test_sixty_rooms_and_more(self):
        # There are more states here than a system may have: the function is called somewhat beyond its limit.
        machine = machine_of_runs(ON, line_of(58))
        self.assertEqual(len(machine[1]), 60)
        self.assertTrue(naive.lets(machine, ((),) * 58))
        self.assertFalse(naive.lets(machine, ((),) * 59))
        for many in (59, 70):
            with self.assertRaises(TooLarge):
                machine_of_runs(ON, line_of(many))

    def test_many_rooms_of_eight_states(self):
        system = (((),) * 8, (0,), ((1,), (2,), (3,), (4,), (5,), (6,), (7,), (0, 1)))
        machine = machine_of_runs(ON, system)
        self.assertEqual(len(machine[1]), 3)
        ends = (((),) * 7 + (("on",),), (0,), ((1,), (2,), (3,), (4,), (5,), (6,), (0, 1, 7), ()))
        self.compare(ON, ends, 9)
        machine = machine_of_runs(ON, ends)
        self.assertGreater(len(machine[1]), 30)
        self.assertEqual(least_machine(machine), machine)


if __name__ == "__main__":
    unittest.main()
