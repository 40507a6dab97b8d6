"""machines.py: [2.1] and its interface."""

import itertools
import random
import unittest

from spansay import machines
from spansay.errors import NotAllowed, TooLarge
from spansay.machines import (
    check_machine, count_rows, first_apart, first_row, joined, least_machine, lets_by, room_behind,
)
from tests import naive

EXAMPLE = ((0, 1), ((1, 2), (1, 2), (1, 2)), (2,))


def cycle(many, lets, letters=("a",)):
    """The machine that counts its letters by so many rooms."""
    moves = tuple(((room + 1) % many,) * len(letters) for room in range(many))
    return (letters, moves, tuple(lets))


def random_machine(rng, rooms, letters):
    moves = tuple(tuple(rng.randrange(rooms) for _ in letters) for _ in range(rooms))
    lets = tuple(room for room in range(rooms) if rng.random() < 0.4)
    return (letters, moves, lets)


def rows_up_to(letters, many):
    for length in range(many + 1):
        for row in itertools.product(letters, repeat=length):
            yield row


def walk(machine, row):
    room = 0
    for letter in row:
        room = machine[1][room][machine[0].index(letter)]
    return room


def lets(machine, row):
    return walk(machine, row) in machine[2]


def naive_least(machine):
    goods = [room in machine[2] for room in range(len(machine[1]))]
    return naive.least(machine[0], machine[1], goods)[0]


class CheckTest(unittest.TestCase):
    def test_constants(self):
        found = (machines.MAX_ROOMS, machines.MAX_LETTERS, machines.MAX_SETS, machines.MAX_LENGTH)
        self.assertEqual(found, (60, 24, 400, 200))

    def test_machines(self):
        for machine in (
            EXAMPLE, (("a",), ((0,),), ()), (("a",), ((0,),), (0,)), cycle(60, range(60)),
            cycle(2, (1,), tuple(range(24))), (((), ("on",), "a", 5), ((0, 0, 0, 0),), (0,)),
            ((((), 0), ((), 1)), ((1, 0), (1, 1)), (0, 1)), (("", "\n", -4), ((0, 0, 0),), ()),
        ):
            self.assertIsNone(check_machine(machine))

    def test_no_machines(self):
        for machine in (
            ((), ((),), ()), ((), (), ()), (("a",), (), ()), (("a", "a"), ((0, 0),), ()),
            ((1, 2, 1), ((0, 0, 0),), ()), ((("on",), ("on",)), ((0, 0),), ()),
            (("a",), ((1,),), ()), (("a",), ((-1,),), ()), (("a",), ((0, 0),), ()), (("a",), ((),), ()),
            (("a", "b"), ((0,),), ()), (("a", "b"), ((0, 0), (0,)), ()), (("a",), ((0,), (2,)), ()),
            (("a",), ((0,),), (1,)), (("a",), ((0,),), (-1,)), (("a",), ((0,), (0,)), (1, 0)),
            (("a",), ((0,), (0,)), (0, 0)), (("a",), ((0,), (0,)), (0, 1, 2)),
            (("a",), ((0,), (0,)), (0, 1, 1)), cycle(61, ()), cycle(61, (60,)),
            cycle(2, (1,), tuple(range(25))),
        ):
            with self.assertRaises(NotAllowed, msg=machine):
                check_machine(machine)

    def test_60_and_61_rooms_24_and_25_letters(self):
        self.assertIsNone(check_machine(cycle(60, (59,), tuple(range(24)))))
        for machine in (cycle(61, (0,), (0,)), cycle(1, (0,), tuple(range(25)))):
            with self.assertRaises(NotAllowed):
                check_machine(machine)


class RowsTest(unittest.TestCase):
    def test_room_behind_and_lets_by(self):
        rng = random.Random(31)
        for _ in range(20):
            machine = random_machine(rng, rng.randint(1, 6), ("a", ("b",), 3))
            for row in rows_up_to(machine[0], 4):
                self.assertEqual(room_behind(machine, row), walk(machine, row))
                self.assertIs(lets_by(machine, row), lets(machine, row))

    def test_no_letters(self):
        for row in ((2,), (0, 1, 2), (0, "a"), ((0,),), ("",), ((),), (0, 1, -1), (None,)):
            with self.assertRaises(NotAllowed, msg=row):
                room_behind(EXAMPLE, row)
            with self.assertRaises(NotAllowed, msg=row):
                lets_by(EXAMPLE, row)

    def test_the_empty_row(self):
        self.assertEqual(room_behind(EXAMPLE, ()), 0)
        self.assertIs(lets_by(EXAMPLE, ()), False)
        self.assertIs(lets_by(cycle(3, (0,)), ()), True)

    def test_a_long_row(self):
        self.assertEqual(room_behind(cycle(60, ()), ("a",) * 5000), 5000 % 60)


class LeastTest(unittest.TestCase):
    def test_example(self):
        self.assertEqual(least_machine(EXAMPLE), ((0, 1), ((0, 1), (0, 1)), (1,)))

    def test_random_machines(self):
        rng = random.Random(32)
        for _ in range(300):
            letters = tuple("abc"[:rng.randint(1, 3)])
            machine = random_machine(rng, rng.randint(1, 9), letters)
            found = least_machine(machine)
            self.assertEqual(found, naive_least(machine))
            for row in rows_up_to(letters, 4):
                self.assertEqual(lets(found, row), lets(machine, row))

    def test_rooms_that_no_row_leads_to_go(self):
        machine = (("a",), ((0,), (0,), (1,)), (1, 2))
        self.assertEqual(least_machine(machine), (("a",), ((0,),), ()))

    def test_rooms_in_the_order_of_their_first_rows(self):
        machine = (("a", "b"), ((2, 1), (1, 1), (2, 0)), (1,))
        self.assertEqual(least_machine(machine), (("a", "b"), ((1, 2), (1, 0), (2, 2)), (2,)))

    def test_60_rooms_and_24_letters(self):
        machine = cycle(60, (59,), tuple(range(24)))
        self.assertEqual(least_machine(machine), machine)
        self.assertEqual(least_machine(cycle(60, range(0, 60, 2))), cycle(2, (0,)))
        self.assertEqual(least_machine(cycle(60, range(60))), cycle(1, (0,)))
        rng = random.Random(33)
        machine = random_machine(rng, 60, tuple(range(24)))
        self.assertEqual(least_machine(machine), naive_least(machine))

    def test_rooms_told_apart_by_long_rows_only(self):
        moves = tuple((min(room + 1, 59),) for room in range(60))
        machine = (("a",), moves, (59,))
        self.assertEqual(least_machine(machine), machine)

    def test_it_is_a_new_value(self):
        machine = (("a",), ((0,), (0,)), (0,))
        least_machine(machine)
        self.assertEqual(machine, (("a",), ((0,), (0,)), (0,)))


class JoinedTest(unittest.TestCase):
    def test_random_machines(self):
        rng = random.Random(34)
        letters = ("a", "b")
        for _ in range(150):
            first = random_machine(rng, rng.randint(1, 5), letters)
            second = random_machine(rng, rng.randint(1, 5), letters)
            both, one = joined(first, second, "and"), joined(first, second, "or")
            self.assertEqual(both, least_machine(both))
            self.assertEqual(one, least_machine(one))
            for row in rows_up_to(letters, 5):
                self.assertEqual(lets(both, row), lets(first, row) and lets(second, row))
                self.assertEqual(lets(one, row), lets(first, row) or lets(second, row))

    def test_other_letters(self):
        ab, ba = cycle(2, (0,), ("a", "b")), cycle(2, (0,), ("b", "a"))
        for first, second in ((ab, ba), (ab, cycle(2, (0,))), (cycle(2, (0,)), cycle(2, (0,), ("b",)))):
            for word in ("and", "or"):
                with self.assertRaises(NotAllowed):
                    joined(first, second, word)
            with self.assertRaises(NotAllowed):
                first_apart(first, second)

    def test_other_letters_come_ahead_of_too_many_rooms(self):
        with self.assertRaises(NotAllowed):
            joined(cycle(7, (0,)), cycle(9, (0,), ("b",)), "and")

    def test_60_rooms_and_61(self):
        filled = (("a",), ((1,), (1,)), (1,))
        self.assertEqual(joined(cycle(5, (0,)), cycle(12, (0,)), "and"), cycle(60, (0,)))
        self.assertEqual(len(joined(filled, cycle(59, (0,)), "and")[1]), 60)
        for word, first, second in (
            ("and", filled, cycle(60, (0,))), ("and", cycle(60, (0,)), filled),
            ("and", cycle(7, (0,)), cycle(9, (0,))), ("or", cycle(7, (0,)), cycle(9, (0,))),
            ("and", cycle(59, (0,)), cycle(60, (0,))),
        ):
            with self.assertRaises(TooLarge):
                joined(first, second, word)

    def test_many_pairs_of_rooms_of_which_few_stay(self):
        first, second = cycle(60, range(0, 60, 2)), cycle(59, range(59))
        self.assertEqual(joined(first, second, "and"), cycle(2, (0,)))
        self.assertEqual(joined(first, second, "or"), cycle(1, (0,)))


class FirstTest(unittest.TestCase):
    def test_example(self):
        self.assertEqual((first_row(EXAMPLE), count_rows(EXAMPLE, 3)), ((1,), 4))

    def test_first_row(self):
        rng = random.Random(35)
        letters = ("b", "a")
        for _ in range(200):
            machine = random_machine(rng, rng.randint(1, 5), letters)
            expected = next((row for row in rows_up_to(letters, 5) if lets(machine, row)), None)
            self.assertEqual(first_row(machine), expected)

    def test_the_empty_row_and_none(self):
        self.assertEqual(first_row(cycle(2, (0,))), ())
        self.assertIsNone(first_row(cycle(2, ())))
        self.assertEqual(first_row(cycle(60, (59,))), ("a",) * 59)

    def test_first_apart(self):
        rng = random.Random(36)
        letters = (("x",), ())
        for _ in range(200):
            first = random_machine(rng, rng.randint(1, 3), letters)
            second = random_machine(rng, rng.randint(1, 3), letters)
            expected = next(
                (row for row in rows_up_to(letters, 9) if lets(first, row) != lets(second, row)), None,
            )
            self.assertEqual(first_apart(first, second), expected)

    def test_apart_by_a_long_row_or_not_at_all(self):
        self.assertIsNone(first_apart(cycle(2, (0,)), cycle(4, (0, 2))))
        self.assertEqual(first_apart(cycle(59, (58,)), cycle(60, (58,))), ("a",) * 117)
        self.assertEqual(first_apart(cycle(1, (0,)), cycle(1, ())), ())


class CountTest(unittest.TestCase):
    def test_counts(self):
        rng = random.Random(37)
        letters = ("a", "b", "c")
        for _ in range(30):
            machine = random_machine(rng, rng.randint(1, 5), letters)
            for many in range(5):
                rows = itertools.product(letters, repeat=many)
                self.assertEqual(count_rows(machine, many), sum(lets(machine, row) for row in rows))

    def test_0_and_200_and_beyond(self):
        every = cycle(1, (0,), tuple(range(24)))
        self.assertEqual(count_rows(every, 0), 1)
        self.assertEqual(count_rows(every, 200), 24 ** 200)
        self.assertEqual(count_rows(cycle(3, (1, 2)), 0), 0)
        for many in (-1, 201, 1000, -200):
            with self.assertRaises(NotAllowed, msg=many):
                count_rows(every, many)


if __name__ == "__main__":
    unittest.main()
