"""classes.py: [4.7], [4.8], [4.9], with [2.2] to [2.4]."""

import itertools
import random
import unittest

from spansay.classes import class_of, class_runs, kind_behind, types_machine
from spansay.errors import TooLarge
from spansay.types import types_of
from tests import naive

ON = ("on",)
FACTS = ("on", "up", "x")


def naive_machine(facts, ways, depth, most=400):
    """The machine of [4.7], its states told apart as [4.8] words them; naive.Large if it is too large."""
    letters = naive.marks(facts)
    zero = least_kinds(letters, *zero_states(facts))
    machine = zero
    for _ in range(depth):
        start = (0, tuple(((0, -1),) for _ in ways))
        states, moves = [start], []
        for state in states:
            row = []
            for at, mark in enumerate(letters):
                sets = tuple(naive.set_after(way, machine, pairs, mark) for way, pairs in zip(ways, state[1]))
                after = (zero[1][state[0]][at], sets)
                if after not in states:
                    states.append(after)
                    if len(states) > most:
                        raise naive.Large()
                row.append(states.index(after))
            moves.append(row)
        signs = []
        for at, sets in states:
            told = [{machine[2][r] for r, h in pairs if h >= 0 and naive.may_end(w, h)} for w, pairs in zip(ways, sets)]
            sign = (zero[2][at],) + tuple(tuple(sorted(kinds - {-1})) for kinds in told)
            signs.append(None if zero[2][at] == -1 else sign)
        machine = least_kinds(letters, moves, signs)
    return machine


def zero_states(facts):
    """The moves and the signs of the rows of marks, told apart by the last zone, the facts held and the places."""
    letters = naive.marks(facts)
    states, moves = [(0, None, 0)], []
    for zone, held, many in states:
        row = []
        for scene, z in letters:
            if zone == 3 or z < zone or (z == 2 and many == 0):
                after = (3, None, 0)
            elif z == 1:
                after = (1, frozenset(scene) & (frozenset(facts) if held is None else held), min(many + 1, 2))
            else:
                after = (z, held, many)
            if after not in states:
                states.append(after)
            row.append(states.index(after))
        moves.append(row)
    return moves, [None if many == 0 else (held, many) for _, held, many in states]


def least_kinds(letters, moves, signs):
    """The least machine by signs of rooms: the rooms and kinds in the order of the first rows."""
    names = {None: -1}
    order = [0]
    for at in order:
        order.extend(after for after in dict.fromkeys(moves[at]) if after not in order)
    for at in order:
        names.setdefault(signs[at], len(names) - 1)
    (_, rows, _), room_of = naive.least(letters, moves, {at: names[signs[at]] for at in range(len(moves))})
    kinds = [None] * len(rows)
    for at, room in room_of.items():
        kinds[room] = names[signs[at]]
    return (letters, rows, tuple(kinds))


class ExamplesTest(unittest.TestCase):
    def test_examples(self):
        self.assertEqual(class_runs(ON, (), 1), [((),), (("on",),), ((), ()), (("on",), ("on",))])
        self.assertEqual(class_of(ON, (), 1, (("on",), (), ("on",))), 2)
        machine = types_machine(ON, (), 0)
        self.assertEqual(len(machine[1]), 10)
        self.assertEqual(kind_behind(machine, ((("on",), 0), ((), 1), ((), 2))), 0)
        self.assertEqual(kind_behind(machine, (((), 2),)), -1)


class MachineTest(unittest.TestCase):
    def compare_types(self, facts, ways, depth, many):
        """Compare with types_of over all runs of up to so many places, four at a time with one of all of them."""
        machine = types_machine(facts, ways, depth)
        self.assertEqual(machine[0], naive.marks(facts))
        runs = [run for length in range(1, many + 1) for run in naive.runs(facts, length)]
        rng = random.Random(73)
        for _ in range(60):
            some = tuple(rng.choice(runs) for _ in range(4))
            kinds = {}
            for run, numbers in zip(some, types_of(some, ways, depth)):
                for stretch, number in zip(naive.stretches(len(run)), numbers):
                    kind = kind_behind(machine, naive.marked(run, *stretch))
                    self.assertGreaterEqual(kind, 0)
                    self.assertEqual(kinds.setdefault(number, kind), kind, (some, ways, depth))
            self.assertEqual(len(set(kinds.values())), len(kinds))

    def test_against_types(self):
        for ways in ((), ("begins",), ("meets",), ("during", "around"), ("begun", "ends"), ("later",), ("overlapped",)):
            for depth in range(3):
                try:
                    self.compare_types(ON, ways, depth, 5)
                except TooLarge:
                    self.assertGreater(depth, 1)
        self.compare_types(("on", "up"), ("begins",), 2, 3)
        self.compare_types(("on", "up"), ("met",), 1, 3)
        self.compare_types(FACTS, (), 4, 2)

    def test_all_runs_at_once(self):
        # The types of all stretches of all short runs: as many as there are kinds, with no two taken for one.
        for ways, depth in ((("begins",), 1), (("ends", "during"), 1), (("around",), 2)):
            machine = types_machine(ON, ways, depth)
            samples = {}
            for run in itertools.chain(*[naive.runs(ON, many) for many in range(1, 5)]):
                for stretch in naive.stretches(len(run)):
                    kind = kind_behind(machine, naive.marked(run, *stretch))
                    samples.setdefault(kind, []).append((run, stretch))
            known = {}
            for kind, rows in samples.items():
                for row in rows[1:]:
                    self.assertTrue(naive.same_type(rows[0], row, ways, depth, known))
                for other in samples:
                    same = naive.same_type(rows[0], samples[other][0], ways, depth, known)
                    self.assertEqual(same, kind == other)

    def test_rows_that_are_no_marked_runs(self):
        for ways, depth in (((), 0), (("begins",), 2), (("later",), 1)):
            machine = types_machine(ON, ways, depth)
            for many in range(5):
                for row in itertools.product(machine[0], repeat=many):
                    zones = [zone for _, zone in row]
                    is_marked = 1 in zones and zones == sorted(zones)
                    self.assertEqual(kind_behind(machine, row) >= 0, is_marked)

    def test_the_least_one_with_rooms_and_kinds_in_order(self):
        rng = random.Random(74)
        for facts, ways, depth in (
            (ON, (), 0), (ON, (), 3), (("on", "up"), (), 0), (FACTS, (), 1), (ON, ("begins",), 3), (ON, ("during",), 2),
            (("up", "on"), ("begins",), 1), (ON, ("ends", "overlapped"), 1), (ON, naive.WAYS[:2], 1),
        ):
            self.assertEqual(types_machine(facts, ways, depth), naive_machine(facts, ways, depth))
        for _ in range(12):
            ways = tuple(way for way in naive.WAYS if way in rng.sample(naive.WAYS, rng.randint(1, 3)))
            depth = rng.randint(1, 2)
            try:
                expected = naive_machine(ON, ways, depth)
            except naive.Large:
                with self.assertRaises(TooLarge):
                    types_machine(ON, ways, depth)
                continue
            self.assertEqual(types_machine(ON, ways, depth), expected)


class BoundsTest(unittest.TestCase):
    # Found by search: the facts, the ways, the depth, and how many states there are at each depth.
    def test_four_hundred_states_and_more(self):
        for facts, ways, depth in (
            (ON, ("ends", "ended", "earlier", "overlaps"), 1),
            (ON, ("begins", "during", "around", "meets"), 1),
            (("on", "up"), ("begins",), 3),
            (FACTS, ("begun",), 1),
        ):
            machine = types_machine(facts, ways, depth)
            self.assertEqual(machine, naive_machine(facts, ways, depth))
        for facts, ways, depth in (
            (ON, ("meets", "met", "earlier", "overlaps"), 1),
            (ON, ("ended", "during", "around", "earlier"), 1),
            (ON, ("ended", "overlaps"), 2),
            (ON, ("begins", "around", "later"), 1),
        ):
            self.assertIsNotNone(naive_machine(facts, ways, depth, 402))
            with self.assertRaises(TooLarge):
                types_machine(facts, ways, depth)
            with self.assertRaises(TooLarge):
                class_runs(facts, ways, depth)
            with self.assertRaises(TooLarge):
                class_of(facts, ways, depth, ((),))

    def test_each_depth_up_to_the_one_that_is_asked(self):
        self.assertIsNotNone(types_machine(ON, ("ended", "overlaps"), 1))
        for depth in range(2, 7):
            with self.assertRaises(TooLarge):
                types_machine(ON, ("ended", "overlaps"), depth)

    def test_depth_0_is_never_too_large(self):
        for facts in (ON, ("on", "up"), FACTS):
            self.assertEqual(types_machine(facts, naive.WAYS, 0), naive_machine(facts, (), 0))
            self.assertEqual(types_machine(facts, (), 6), naive_machine(facts, (), 0))
        with self.assertRaises(TooLarge):
            types_machine(FACTS, naive.WAYS, 1)


class ClassesTest(unittest.TestCase):
    def compare(self, facts, ways, depth, many):
        """Compare with a plain search over all runs of up to so many places."""
        firsts = class_runs(facts, ways, depth)
        known = {}
        found = []
        for run in itertools.chain(*[naive.runs(facts, length) for length in range(1, many + 1)]):
            whole = (run, (0, len(run) - 1))
            for number, first in enumerate(found):
                if naive.same_type(whole, (first, (0, len(first) - 1)), ways, depth, known):
                    break
            else:
                number = len(found)
                found.append(run)
            self.assertEqual(class_of(facts, ways, depth, run), number)
        self.assertEqual([run for run in firsts if len(run) <= many], found)
        self.assertEqual(firsts[:len(found)], found)

    def test_first_runs_and_numbers(self):
        self.compare(ON, (), 0, 4)
        self.compare(ON, (), 3, 3)
        self.compare(("up", "on"), (), 0, 3)
        for way in naive.WAYS:
            self.compare(ON, (way,), 1, 4)
        self.compare(ON, ("begins", "ends"), 1, 4)
        self.compare(("on", "up"), ("ends",), 1, 2)

    def test_long_runs(self):
        run = (("on",),) * 3 + ((),) * 200
        self.assertEqual(class_of(ON, ("begins",), 1, run), class_of(ON, ("begins",), 1, (("on",), ("on",), (), ())))

    def test_a_returned_list_may_be_changed(self):
        runs = class_runs(ON, (), 0)
        runs.clear()
        self.assertEqual(len(class_runs(ON, (), 0)), 4)


if __name__ == "__main__":
    unittest.main()
