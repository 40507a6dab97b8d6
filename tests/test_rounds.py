"""rounds.py: [5.1], [5.2]."""

import itertools
import random
import unittest

from spansay.errors import BadPaper, NotAllowed, TooLarge
from spansay.rounds import MAX_DEEDS, deed_of, deeds_of, first_round, judge_round
from tests import naive

TURN = ((0, 1), ((0, 1), (1, 0)), (1,))
CYCLE = (("a", "b"), ((1, 0), (2, 1), (3, 2), (4, 3), (5, 4), (0, 5)), (0,))


def chains(*lengths):
    """A machine with a chain of rooms for each letter, which goes one room on in its own chain."""
    starts = [sum(lengths[:k]) for k in range(len(lengths))]
    rows = []
    for k, length in enumerate(lengths):
        for at in range(length):
            row = [starts[k] + at] * len(lengths)
            row[k] = starts[k] + min(at + 1, length - 1)
            rows.append(tuple(row))
    return (tuple(range(len(lengths))), tuple(rows), (0,))


def one_letter(tail, *cycles):
    """A machine of one letter that leads along a tail, and around in cycles."""
    rows = [(at + 1,) for at in range(tail)]
    for many in cycles:
        start = len(rows)
        rows.extend((start + (at + 1) % many,) for at in range(many))
    return (("a",), tuple(rows), ())


def random_machine(rng):
    many = rng.randint(1, 4)
    letters = tuple(range(rng.randint(1, 3)))
    rows = tuple(tuple(rng.randrange(many) for _ in letters) for _ in range(many))
    return (letters, rows, tuple(at for at in range(many) if rng.random() < 0.5))


def slow_rounds(machine, most):
    """All rounds whose row has up to so many letters, in the order of rows, then of rooms."""
    for many in range(1, most + 1):
        for row in itertools.product(machine[0], repeat=many):
            deed = naive.deed(machine, row)
            for room in range(len(deed)):
                at, times = deed[room], 1
                while at != room and times <= len(deed):
                    at, times = deed[at], times + 1
                if at == room and times >= 2:
                    yield room, row, times


class DeedsTest(unittest.TestCase):
    def test_examples(self):
        self.assertEqual(deeds_of(TURN), [((), (0, 1)), ((1,), (1, 0))])
        self.assertEqual(first_round(TURN), (0, (1,), 2))
        self.assertIsNone(judge_round(TURN, 1, (0, 1, 0), 2))
        with self.assertRaises(BadPaper):
            judge_round(TURN, 0, (1,), 4)

    def test_deed_of_rows(self):
        rng = random.Random(75)
        for _ in range(100):
            machine = random_machine(rng)
            row = tuple(rng.choice(machine[0]) for _ in range(rng.randint(0, 6)))
            self.assertEqual(deed_of(machine, row), naive.deed(machine, row))
        self.assertEqual(deed_of(CYCLE, ()), (0, 1, 2, 3, 4, 5))
        for row in (("c",), ("a", 0), (("a",),)):
            with self.assertRaises(NotAllowed):
                deed_of(CYCLE, row)

    def test_all_deeds_in_order(self):
        rng = random.Random(76)
        for _ in range(60):
            machine = random_machine(rng)
            met = {}
            many = 0
            is_new = True
            while is_new:
                is_new = False
                for row in itertools.product(machine[0], repeat=many):
                    deed = naive.deed(machine, row)
                    if deed not in met:
                        met[deed] = row
                        is_new = True
                many += 1
                if len(machine[0]) ** many > 20000:
                    break
            if is_new:
                continue
            self.assertEqual(deeds_of(machine), [(row, deed) for deed, row in met.items()])

    def test_letters_of_all_kinds(self):
        machine = ((("on",), "x", 3), ((0, 1, 0), (1, 1, 0)), (0,))
        found = [((), (0, 1)), (("x",), (1, 1)), ((3,), (0, 0))]
        self.assertEqual(deeds_of(machine), found)

    def test_two_thousand_deeds_and_more(self):
        self.assertEqual(len(deeds_of(one_letter(20, 4, 9, 5, 11))), 2000)
        self.assertEqual(len(deeds_of(chains(10, 10, 20))), MAX_DEEDS)
        for machine in (one_letter(21, 4, 9, 5, 11), chains(3, 23, 29), chains(10, 10, 21), chains(20, 20, 20)):
            with self.assertRaises(TooLarge):
                deeds_of(machine)

    def test_a_returned_list_may_be_changed(self):
        deeds_of(TURN).clear()
        self.assertEqual(len(deeds_of(TURN)), 2)


class RoundTest(unittest.TestCase):
    def test_the_first_one_by_row_and_then_by_room(self):
        rng = random.Random(77)
        for _ in range(150):
            machine = random_machine(rng)
            found = first_round(machine)
            first = next(slow_rounds(machine, 7), None)
            if first is None:
                self.assertTrue(found is None or len(found[1]) > 7)
            else:
                self.assertEqual(found, first)
        two = ((0, 1), ((0, 0), (2, 1), (1, 2)), ())
        self.assertEqual(first_round(two), (1, (0,), 2))

    def test_rooms_to_which_no_row_leads(self):
        self.assertEqual(first_round((("a",), ((0,), (2,), (1,)), (0,))), (1, ("a",), 2))

    def test_no_round(self):
        for machine in (chains(5), chains(3, 4), ((0,), ((0,),), (0,)), chains(10, 10, 20)):
            self.assertIsNone(first_round(machine))

    def test_two_thousand_deeds_and_more(self):
        self.assertIsNone(first_round(chains(10, 10, 20)))
        for machine in (chains(3, 23, 29), chains(20, 20, 20)):
            with self.assertRaises(TooLarge):
                first_round(machine)
        # A round that is found in time is told, however many deeds there are.
        letters, rows, lets = chains(20, 19, 19)
        rows = tuple(row + (at,) for at, row in enumerate(rows)) + ((58, 58, 58, 59), (59, 59, 59, 58))
        self.assertEqual(first_round((letters + (3,), rows, lets)), (58, (3,), 2))

    def test_long_rounds(self):
        self.assertEqual(first_round(one_letter(0, 59)), (0, ("a",), 59))
        self.assertEqual(first_round(CYCLE), (0, ("a",), 6))


class JudgeTest(unittest.TestCase):
    def bad(self, machine, room, row, times):
        with self.assertRaises(BadPaper):
            judge_round(machine, room, row, times)

    def refused(self, machine, room, row, times):
        with self.assertRaises(NotAllowed):
            judge_round(machine, room, row, times)

    def test_other_times(self):
        self.assertIsNone(judge_round(CYCLE, 0, ("a",), 6))
        self.assertIsNone(judge_round(CYCLE, 4, ("a", "a"), 3))
        self.assertIsNone(judge_round(CYCLE, 4, ("a", "b", "a", "a"), 2))
        for times in (12, 18, 3, 2, 1, 0, -1, -6, 5, 7, 10 ** 30):
            self.bad(CYCLE, 0, ("a",), times)
        for times in (1, 2, 0, -1):
            self.bad(CYCLE, 0, ("b",), times)
        self.bad(CYCLE, 0, ("a",) * 6, 1)

    def test_rooms_outside_of_a_cycle(self):
        machine = one_letter(3, 4)
        self.assertIsNone(judge_round(machine, 3, ("a",), 4))
        for times in (1, 2, 3, 4, 5):
            self.bad(machine, 0, ("a",), times)

    def test_what_is_not_allowed(self):
        for room in (-1, 6, 100):
            self.refused(CYCLE, room, ("a",), 6)
        self.refused(CYCLE, 0, (), 6)
        for row in (("c",), ("a", "a", 1), (("a",),)):
            self.refused(CYCLE, 0, row, 6)

    def test_not_allowed_ahead_of_a_bad_paper(self):
        for times in (1, 0, -1, 7):
            self.refused(CYCLE, 6, ("a",), times)
            self.refused(CYCLE, 0, (), times)
            self.refused(CYCLE, 0, ("a", "c"), times)

    def test_all_small_ones(self):
        rng = random.Random(78)
        for _ in range(25):
            machine = random_machine(rng)
            right = set(slow_rounds(machine, 3))
            for many in range(1, 4):
                for row in itertools.product(machine[0], repeat=many):
                    for room in range(len(machine[1])):
                        for times in range(-1, 7):
                            if (room, row, times) in right:
                                self.assertIsNone(judge_round(machine, room, row, times))
                            else:
                                self.bad(machine, room, row, times)


if __name__ == "__main__":
    unittest.main()
