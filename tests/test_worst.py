"""worst.py: [11.6], [11.8]."""

import itertools
import random
import unittest

from spansay.errors import Missing, NotAllowed, TooLarge
from spansay.near import distance
from spansay.worst import MAX_VECTORS, worst
from tests import naive
from tests.test_covers import ALIKE, EVERY, LAST, NEAR_THE_BOUND as TOO_MANY_TAKEN, ONE, Slow, layered, useful
from tests.test_near import has_runs, price

FACTS = ("on", "up")
FAR = 10 ** 9
# Found by search: the number of the pairs of [11.8], the prices, and the moves and rooms of two machines.
LETTERS = ((), ("on",))
NEAR_THE_BOUND = (
    (2993, 14, (7, 1, (7,)), (LETTERS, ((2, 1), (2, 0), (4, 2), (3, 2), (4, 4)), (1, 4)),
     (LETTERS, ((6, 0), (6, 5), (1, 5), (6, 5), (4, 2), (5, 1), (6, 1)), (3, 5))),
    (3000, 8, (8, 7, (4,)), (LETTERS, ((0, 1), (3, 2), (2, 1), (3, 2)), (0, 1, 2)),
     (LETTERS, ((8, 10), (11, 5), (5, 1), (8, 8), (11, 11), (10, 4), (11, 0), (1, 7), (6, 2), (4, 6), (9, 11), (3, 1)),
      (4, 8, 9))),
    (3002, 21, (7, 1, (6,)), (LETTERS, ((2, 2), (1, 2), (2, 2)), (1, 2)),
     (LETTERS, ((4, 0), (0, 2), (2, 0), (1, 1), (3, 4)), (2,))),
    (3002, 9, (9, 1, (7,)), (LETTERS, ((0, 0), (0, 1)), (0,)),
     (LETTERS, ((1, 6), (0, 4), (1, 1), (6, 3), (4, 5), (7, 7), (6, 8), (1, 7), (7, 8)), (0, 4, 8))),
)


def start_vector(prices, machine):
    """The prices from `nothing yet` to each stand, with scenes that are put in alone."""
    found = [FAR] * len(machine[1]) + [0]
    reached = set(machine[1][0])
    cost = prices[0]
    while any(found[room] == FAR for room in reached):
        for room in reached:
            found[room] = min(found[room], cost)
        reached = {after for room in reached for after in machine[1][room]}
        cost += prices[0]
    return tuple(found)


def vector_behind(facts, prices, machine, vector, old):
    """The prices behind one place more: the deed that uses it up, then any number of scenes put in."""
    put, leave, _ = prices
    rooms = machine[1] + machine[1][:1]
    found = [cost + leave for cost in vector]
    for stand, row in enumerate(rooms):
        for at, scene in enumerate(machine[0]):
            deed = 0 if scene == old else price(facts, prices, ("turn", scene), old)
            found[row[at]] = min(found[row[at]], vector[stand] + deed)
    for _ in rooms:
        for stand, row in enumerate(rooms):
            for after in row:
                found[after] = min(found[after], found[stand] + put)
    return tuple(found)


def search(facts, prices, first, second, cap, most=10 ** 6):
    """The pairs of [11.8] in the order of their first rows: a list of (row, room, vector)."""
    def capped(vector):
        return tuple(min(cost, cap + 1) for cost in vector)

    inner = useful(first)
    start = (0, capped(start_vector(prices, second)))
    seen = {start}
    found = [((),) + start]
    for row, room, vector in found:
        for at, scene in enumerate(first[0]):
            after = first[1][room][at]
            if after in inner:
                pair = (after, capped(vector_behind(facts, prices, second, vector, scene)))
                if pair not in seen:
                    seen.add(pair)
                    found.append((row + (scene,),) + pair)
        if len(found) > most:
            break
    return found


def distances(first, second, found):
    """The distances of the runs among the rows of a search, as far as the cap."""
    return [
        (min(cost for room, cost in enumerate(vector) if room in second[2]), row)
        for row, room, vector in found if row and room in first[2]
    ]


class WorstTest(unittest.TestCase):
    def test_examples(self):
        price = (1, 1, (1,))
        self.assertEqual((worst(ONE, price, EVERY, LAST), worst(ONE, price, EVERY, ALIKE)), ((1, ((),)), None))

    def test_constant(self):
        self.assertEqual(MAX_VECTORS, 3000)

    def random_case(self, rng, rooms=5):
        facts = FACTS[:rng.choice([1, 1, 1, 2])]
        prices = (rng.randint(1, 6), rng.randint(1, 6), tuple(rng.randint(1, 6) for _ in facts))
        first, second = layered(rng, facts, rng.randint(1, rooms)), layered(rng, facts, rng.randint(1, rooms))
        return facts, prices, first, second

    def test_against_a_plain_search(self):
        rng = random.Random(191)
        found = {}
        tried = 0
        while tried < 400:
            case = self.random_case(rng)
            facts, prices, first, second = case
            if not has_runs(first) or not has_runs(second):
                with self.assertRaises(Missing):
                    worst(*case)
                continue
            tried += 1
            told = worst(*case)
            self.assertEqual(told is None, not Slow(first, second).is_bounded())
            if told is None:
                found[None] = found.get(None, 0) + 1
                continue
            greatest, run = told
            rows = distances(first, second, search(*case, greatest))
            self.assertEqual(max(cost for cost, _ in rows), greatest)
            self.assertEqual([row for cost, row in rows if cost == greatest][0], run)
            self.assertEqual(distance(facts, prices, run, second), greatest)
            found[greatest] = found.get(greatest, 0) + 1
            # No run of a few places is further, and none that is ahead of the first one is as far.
            for many in range(1, 6 if len(facts) == 1 else 3):
                for other in itertools.product(first[0], repeat=many):
                    if naive.lets(first, other):
                        least = distance(facts, prices, other, second)
                        self.assertLessEqual(least, greatest)
                        if many < len(run):
                            self.assertLess(least, greatest)
        self.assertGreater(len(found), 12)
        self.assertGreater(found[None], 50)
        self.assertGreater(found[0], 20)

    def test_unbounded_runs_grow_further(self):
        rng = random.Random(192)
        tried = 0
        while tried < 40:
            case = self.random_case(rng, 4)
            facts, prices, first, second = case
            if not has_runs(first) or not has_runs(second) or worst(*case) is not None:
                continue
            tried += 1
            for cap in (5, 12):
                rows = distances(first, second, search(*case, cap, 20000))
                self.assertGreater(max(cost for cost, _ in rows), cap)

    def test_a_machine_and_itself(self):
        rng = random.Random(193)
        for _ in range(100):
            facts, prices, first, _ = self.random_case(rng, 8)
            if has_runs(first):
                greatest, run = worst(facts, prices, first, first)
                self.assertEqual(greatest, 0)
                shortest = [
                    row for many in range(1, 9) for row in itertools.product(first[0], repeat=many)
                    if many < 5 and naive.lets(first, row)
                ]
                if shortest:
                    self.assertEqual(run, shortest[0])

    def test_the_empty_row_is_no_run(self):
        letters = ((), ("on",))
        # Both let the empty row by; the first one also the runs without `on`, the second one those of two places and more.
        first = (letters, ((0, 1), (1, 1)), (0,))
        second = (letters, ((1, 1), (2, 2), (2, 2)), (0, 2))
        self.assertEqual(worst(ONE, (5, 9, (9,)), first, second), (5, ((),)))
        self.assertEqual(worst(ONE, (5, 1, (9,)), first, second), (5, ((),)))

    def test_great_prices(self):
        letters = ((), ("on",))
        nine = (letters, tuple((at + 1, at + 1) for at in range(9)) + ((9, 9),), (9,))
        self.assertEqual(worst(ONE, (99, 99, (99,)), EVERY, nine), (99 * 8, ((),)))
        self.assertEqual(worst(ONE, (7, 1, (1,)), EVERY, nine), (7 * 8, ((),)))

    def test_machines_that_let_by_no_run(self):
        letters = ((), ("on",))
        for machine in ((letters, ((0, 0),), ()), (letters, ((1, 1), (1, 1)), (0,)), (letters, ((0, 0), (1, 1)), (1,))):
            for first, second in ((machine, EVERY), (EVERY, machine), (machine, machine)):
                with self.assertRaises(Missing):
                    worst(ONE, (1, 1, (1,)), first, second)

    def test_letters_that_are_not_the_scenes(self):
        for letters in ((("on",), ()), ((), ("on",), ("up",)), (0, 1), ((), ("up",))):
            wrong = (letters, ((0,) * len(letters),), ())
            for first, second in ((wrong, EVERY), (EVERY, wrong)):
                with self.assertRaises(NotAllowed):
                    worst(ONE, (1, 1, (1,)), first, second)

    def test_too_many_rows_that_are_taken(self):
        letters = ((), ("on",))
        for many, moves, more in TOO_MANY_TAKEN:
            if many > 2000:
                first, second = [(letters, rows, tuple(range(len(rows) - 1))) for rows in (moves, more)]
                with self.assertRaises(TooLarge):
                    worst(ONE, (1, 1, (1,)), first, second)

    def test_three_thousand_pairs_and_more(self):
        for many, greatest, prices, first, second in NEAR_THE_BOUND:
            facts = FACTS[:len(prices[2])]
            found = search(facts, prices, first, second, greatest)
            self.assertEqual(len(found), many)
            self.assertEqual(max(distances(first, second, found))[0], greatest)
            if many > MAX_VECTORS:
                with self.assertRaises(TooLarge):
                    worst(facts, prices, first, second)
            else:
                rows = distances(first, second, found)
                self.assertEqual(worst(facts, prices, first, second), [row for row in rows if row[0] == greatest][0])
        self.assertEqual({many > MAX_VECTORS for many, *_ in NEAR_THE_BOUND}, {True, False})

    def test_a_cap_that_is_less_than_the_greatest_distance_is_raised(self):
        # The last five places have to be `on`: the distance grows with the number of those that are not.
        machine = (LETTERS, ((0, 1), (0, 2), (0, 3), (0, 4), (0, 5), (0, 5)), (5,))
        for prices in ((9, 9, (5,)), (9, 3, (5,)), (1, 9, (9,)), (7, 6, (8,))):
            greatest, run = worst(ONE, prices, EVERY, machine)
            rows = distances(EVERY, machine, search(ONE, prices, EVERY, machine, greatest))
            self.assertEqual(max(cost for cost, _ in rows), greatest)
            self.assertEqual([row for cost, row in rows if cost == greatest][0], run)
        self.assertEqual(worst(ONE, (9, 9, (5,)), EVERY, machine), (41, ((),)))


if __name__ == "__main__":
    unittest.main()
