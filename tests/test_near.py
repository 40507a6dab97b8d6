"""near.py: [11.1], [11.2], [11.3]."""

import random
import unittest

from spansay.errors import Missing, NotAllowed, TooLarge
from spansay.least import machine_of
from spansay.near import (
    MAX_NEAR, MAX_PRICE, check_prices, count_nearest, distance, first_nearest, mended, price_of,
)
from tests import naive

FACTS = ("on", "up")
ONE = ((), ("on",))
TWO = ((), ("on",), ("up",), ("on", "up"))
# Found by search: the number of pairs of [11.3], the prices, the run as numbers of scenes, the machine.
NEAR_THE_BOUND = (
    (3999, (4, 3, (2, 2)), "021001020", (TWO, ((1, 0, 1, 0), (1, 1, 1, 1)), (0,))),
    (4000, (2, 4, (4,)), "11000000001", (ONE, ((1, 0), (1, 1)), (0,))),
    (4000, (4, 2, (3,)), "00111011101100", (ONE, ((1, 4), (4, 3), (2, 0), (4, 4), (3, 4)), (1,))),
    (4002, (1, 1, (2, 1)), "122213310", (TWO, ((2, 1, 0, 1), (2, 1, 2, 2), (2, 1, 2, 1)), (0,))),
    (4004, (3, 4, (1,)), "10100111101", (ONE, ((1, 2), (3, 3), (3, 3), (3, 2)), (0, 1))),
)


def price(facts, prices, deed, old):
    put, leave, turns = prices
    if deed[0] == "turn":
        return sum(cost for fact, cost in zip(facts, turns) if (fact in old) != (fact in deed[1]))
    return {"stay": 0, "put": put, "leave": leave}[deed[0]]


def all_mends(facts, prices, run, most):
    """All rows of deeds that use up a run, with a price of at most so much: (price, mend, new row)."""
    put = prices[0]
    found = []
    waiting = [(0, (), (), 0)]
    while waiting:
        cost, mend, row, place = waiting.pop()
        if place == len(run):
            found.append((cost, mend, row))
        steps = []
        for scene in naive.scenes(facts):
            steps.append((("put", scene), (scene,), 0))
            if place < len(run) and scene != run[place]:
                steps.append((("turn", scene), (scene,), 1))
        if place < len(run):
            steps += [(("stay",), (run[place],), 1), (("leave",), (), 1)]
        for deed, made, used in steps:
            more = cost + price(facts, prices, deed, run[place] if used else None)
            if more <= most and put > 0:
                waiting.append((more, mend + (deed,), row + made, place + used))
    return found


def slow_nearest(facts, prices, run, machine, most):
    """The distance and the nearest runs, in order, by all mends up to a price; None if that does not reach."""
    found = [(cost, row) for cost, _, row in all_mends(facts, prices, run, most) if row and naive.lets(machine, row)]
    if not found:
        return None
    least = min(cost for cost, _ in found)
    scenes = naive.scenes(facts)
    rows = {row for cost, row in found if cost == least}
    return least, sorted(rows, key=lambda row: (len(row), [scenes.index(scene) for scene in row]))


def count_pairs(facts, prices, run, machine, cap):
    """The number of the pairs of [11.3], for a distance that is one less than the cap."""
    put, leave, turns = prices
    scenes = naive.scenes(facts)
    start = (tuple(min(k * leave, cap) for k in range(len(run) + 1)), 0)
    seen = {start}
    waiting = [start]
    while waiting:
        vector, room = waiting.pop()
        for at, scene in enumerate(scenes):
            row = [min(vector[0] + put, cap)]
            for k, old in enumerate(run):
                turned = vector[k] + price(facts, prices, ("turn", scene), old)
                row.append(min(turned, vector[k + 1] + put, row[k] + leave, cap))
            pair = (tuple(row), machine[1][room][at])
            if min(row) < cap and pair not in seen:
                seen.add(pair)
                waiting.append(pair)
    return len(seen)


def random_machine(rng, facts, many):
    letters = tuple(naive.scenes(facts))
    rows = tuple(tuple(rng.randrange(many) for _ in letters) for _ in range(many))
    return (letters, rows, tuple(at for at in range(many) if rng.random() < 0.4))


def has_runs(machine):
    """Whether a machine lets some row by that is not empty."""
    found = set(machine[1][0])
    for _ in machine[1]:
        found |= {after for room in found for after in machine[1][room]}
    return bool(found & set(machine[2]))


class PricesTest(unittest.TestCase):
    def test_prices(self):
        self.assertEqual((MAX_PRICE, MAX_NEAR), (99, 4000))
        for prices in ((1, 1, (1, 1)), (99, 99, (99, 99)), (1, 99, (99, 1)), (4, 3, (2, 9))):
            self.assertIsNone(check_prices(FACTS, prices))
        self.assertIsNone(check_prices(("on",), (1, 1, (1,))))
        self.assertIsNone(check_prices(("on", "up", "x"), (1, 1, (1, 2, 3))))

    def test_what_are_no_prices(self):
        for wrong in (0, -1, 100, 10 ** 9):
            for prices in ((wrong, 1, (1, 1)), (1, wrong, (1, 1)), (1, 1, (wrong, 1)), (1, 1, (1, wrong))):
                with self.assertRaises(NotAllowed):
                    check_prices(FACTS, prices)
        for turns in ((), (1,), (1, 1, 1)):
            with self.assertRaises(NotAllowed):
                check_prices(FACTS, (1, 1, turns))


class MendTest(unittest.TestCase):
    RUN = ((), ("up",), ("on",))
    PRICES = (40, 30, (2, 9))

    def refused(self, run, *mends):
        for mend in mends:
            with self.assertRaises(NotAllowed, msg=mend):
                mended(FACTS, run, mend)
            with self.assertRaises(NotAllowed, msg=mend):
                price_of(FACTS, self.PRICES, run, mend)

    def test_examples(self):
        mend = (("leave",), ("turn", ("on", "up")), ("stay",), ("put", ()))
        self.assertEqual(mended(FACTS, self.RUN, mend), (("on", "up"), ("on",), ()))
        self.assertEqual(price_of(FACTS, (4, 3, (2, 9)), self.RUN, mend), 3 + 2 + 0 + 4)
        machine = machine_of(FACTS, ("all", "begins", ("fact", "on")))
        prices = (4, 3, (2, 9))
        self.assertEqual(distance(FACTS, prices, self.RUN, machine), 4)
        self.assertEqual(count_nearest(FACTS, prices, self.RUN, machine), 1)
        self.assertEqual(first_nearest(FACTS, prices, self.RUN, machine)[0], (("on",), ("on", "up"), ("on",)))

    def test_each_deed(self):
        stay = (("stay",),) * 3
        self.assertEqual((mended(FACTS, self.RUN, stay), price_of(FACTS, self.PRICES, self.RUN, stay)), (self.RUN, 0))
        for deed, made, cost in (
            (("stay",), ((),), 0), (("leave",), (), 30), (("turn", ("on",)), (("on",),), 2),
            (("turn", ("up",)), (("up",),), 9), (("turn", ("on", "up")), (("on", "up"),), 11),
        ):
            mend = (deed,) + stay[1:]
            self.assertEqual(mended(FACTS, self.RUN, mend), made + self.RUN[1:])
            self.assertEqual(price_of(FACTS, self.PRICES, self.RUN, mend), cost)
        for at in range(4):
            mend = stay[:at] + (("put", ("up",)),) + stay[at:]
            self.assertEqual(mended(FACTS, self.RUN, mend), self.RUN[:at] + (("up",),) + self.RUN[at:])
            self.assertEqual(price_of(FACTS, self.PRICES, self.RUN, mend), 40)
        self.assertEqual(price_of(FACTS, self.PRICES, (("on",),), (("turn", ("up",)),)), 11)
        self.assertEqual(price_of(FACTS, self.PRICES, (("on", "up"),), (("turn", ()), ("put", ()), ("put", ()))), 91)

    def test_all_mends_of_small_runs(self):
        prices = (3, 2, (2, 4))
        for run in ((("on",),), ((), ("up",))):
            for cost, mend, row in all_mends(FACTS, prices, run, 7):
                if row:
                    self.assertEqual(mended(FACTS, run, mend), row)
                    self.assertEqual(price_of(FACTS, prices, run, mend), cost)
                else:
                    self.refused(run, mend)

    def test_deeds_spoilt(self):
        stay = (("stay",),) * 2
        for deed in (
            (), ("stay", ()), ("leave", ()), ("turn",), ("put",), ("turn", (), ()), ("put", (), ()), ("turn", ("x",)),
            ("put", ("x",)), ("put", ("up", "on")), ("turn", ("up", "on")), ("put", ("on", "on")), ("put", "on"),
            ("turn", "on"), ("put", ""), ("turn", ""), ("put", "-"), ("go",), ("",), (("on",),), ((), ()), ("stay", "on"),
            ("drop", ("on",)), (("stay",),), (("put",), ("on",)),
        ):
            self.refused(self.RUN, (deed,) + stay, stay + (deed,), stay[:1] + (deed,) + stay[1:])
            self.refused(self.RUN, (deed,) + stay + stay[:1], stay + stay[:1] + (deed,))

    def test_a_scene_is_not_turned_into_itself(self):
        self.refused(self.RUN, (("turn", ()), ("stay",), ("stay",)), (("stay",), ("turn", ("up",)), ("stay",)))

    def test_places_left_over_and_too_few(self):
        stay = ("stay",)
        self.refused(self.RUN, (), (stay,), (stay, stay), (("put", ()),), (stay, stay, ("put", ("on",))))
        self.refused(self.RUN, (stay,) * 4, (stay, stay, stay, ("leave",)), (("leave",),) * 2 + (stay, stay))
        self.refused(self.RUN, (stay, stay, stay, ("turn", ("on",))))

    def test_no_scene_made(self):
        self.refused(self.RUN, (("leave",),) * 3)
        self.refused(((),), (("leave",),))
        self.assertEqual(mended(FACTS, ((),), (("leave",), ("put", ("on",)))), (("on",),))


class NearestTest(unittest.TestCase):
    def compare(self, facts, prices, run, machine, most):
        """Compare with all mends up to a price; return the distance, None if they do not reach."""
        slow = slow_nearest(facts, prices, run, machine, most)
        if slow is None:
            return None
        least, rows = slow
        self.assertEqual(distance(facts, prices, run, machine), least, (prices, run, machine))
        self.assertEqual(count_nearest(facts, prices, run, machine), len(rows), (prices, run, machine))
        first, mend = first_nearest(facts, prices, run, machine)
        self.assertEqual(first, rows[0])
        self.assertEqual(mended(facts, run, mend), first)
        self.assertEqual(price_of(facts, prices, run, mend), least)
        return least

    def test_against_all_mends(self):
        rng = random.Random(151)
        found = {}
        for _ in range(400):
            facts = FACTS[:rng.randint(1, 2)]
            machine = random_machine(rng, facts, rng.randint(1, 4))
            run = tuple(rng.choice(naive.scenes(facts)) for _ in range(rng.randint(1, 3)))
            prices = (rng.randint(2, 5), rng.randint(1, 5), tuple(rng.randint(1, 5) for _ in facts))
            if has_runs(machine):
                least = self.compare(facts, prices, run, machine, 8 if len(facts) == 1 else 5)
                found[least] = found.get(least, 0) + 1
            else:
                self.missing(facts, prices, run, machine)
        for least in (0, 1, 2, 3, 4):
            self.assertGreater(found.get(least, 0), 3)

    def missing(self, facts, prices, run, machine):
        for call in (distance, first_nearest, count_nearest):
            with self.assertRaises(Missing):
                call(facts, prices, run, machine)

    def test_cheap_puts(self):
        rng = random.Random(152)
        for _ in range(60):
            machine = random_machine(rng, ("on",), 5)
            if has_runs(machine):
                run = tuple(rng.choice(ONE) for _ in range(rng.randint(1, 3)))
                self.compare(("on",), (1, 3, (2,)), run, machine, 4)

    def test_great_prices(self):
        every = (ONE, ((0, 0),), (0,))
        none_on = (ONE, ((0, 1), (1, 1)), (0,))
        run = (("on",),) * 3
        self.assertEqual(distance(("on",), (99, 99, (99,)), run, every), 0)
        self.assertEqual(distance(("on",), (99, 99, (99,)), run, none_on), 297)
        self.assertEqual(distance(("on",), (99, 1, (99,)), run, none_on), 101)
        self.assertEqual(distance(("on",), (1, 99, (99,)), run, none_on), 297)
        self.assertEqual(first_nearest(("on",), (99, 1, (99,)), run, none_on)[0], ((),))
        self.assertEqual(count_nearest(("on",), (99, 99, (99,)), run, none_on), 3)

    def test_a_machine_that_lets_by_no_run(self):
        for machine in ((ONE, ((0, 0),), ()), (ONE, ((1, 1), (1, 1)), (0,)), (ONE, ((0, 0), (1, 1)), (1,))):
            self.missing(("on",), (1, 1, (1,)), ((),), machine)

    def test_the_empty_row_is_no_run(self):
        # The empty row is let by, and the runs of two places and more.
        machine = (ONE, ((1, 1), (2, 2), (2, 2)), (0, 2))
        self.assertEqual(distance(("on",), (50, 1, (1,)), ((),), machine), 50)
        self.assertEqual(count_nearest(("on",), (50, 1, (1,)), ((),), machine), 3)
        self.assertEqual(first_nearest(("on",), (50, 1, (1,)), ((),), machine)[0], ((), ()))
        self.compare(("on",), (2, 1, (1,)), ((),), machine, 6)
        machine = (ONE, ((1, 0), (1, 1)), (0,))
        self.assertEqual(distance(("on",), (5, 1, (9,)), ((), ()), machine), 7)
        self.assertEqual(first_nearest(("on",), (5, 1, (9,)), ((), ()), machine)[0], (("on",),))

    def test_each_run_counts_once(self):
        # Many mends lead to the same new run.
        machine = machine_of(("on",), ("some", "begins", ("some", "begins", ("point",))))
        self.assertEqual(count_nearest(("on",), (1, 1, (1,)), ((), ()), machine), 4)

    def test_long_runs(self):
        machine = machine_of(FACTS, ("all", "begins", ("fact", "on")))
        run = (("on",), ("on", "up")) * 100
        self.assertEqual(distance(FACTS, (4, 3, (2, 9)), run + ((), ("up",)), machine), 2)
        first, mend = first_nearest(FACTS, (4, 3, (2, 9)), run + ((), ("up",)), machine)
        self.assertEqual(first, run + (("on",), ("up",)))
        self.assertEqual(price_of(FACTS, (4, 3, (2, 9)), run + ((), ("up",)), mend), 2)
        self.assertEqual(distance(FACTS, (4, 3, (2, 9)), ((),) * 2000, machine), 2 * 1999)


class BoundsTest(unittest.TestCase):
    def test_four_thousand_pairs_and_more(self):
        for pairs, prices, numbers, machine in NEAR_THE_BOUND:
            facts = FACTS[:len(prices[2])]
            run = tuple(naive.scenes(facts)[int(number)] for number in numbers)
            least = distance(facts, prices, run, machine)
            self.assertEqual(count_pairs(facts, prices, run, machine, least + 1), pairs)
            if pairs <= MAX_NEAR:
                self.assertGreater(count_nearest(facts, prices, run, machine), 0)
                first, mend = first_nearest(facts, prices, run, machine)
                self.assertTrue(naive.lets(machine, first))
                self.assertEqual(mended(facts, run, mend), first)
                self.assertEqual(price_of(facts, prices, run, mend), least)
            else:
                for call in (first_nearest, count_nearest):
                    with self.assertRaises(TooLarge):
                        call(facts, prices, run, machine)

    def test_letters_that_are_not_the_scenes(self):
        for letters in ((("on",), ()), ((), ("on",), ("up",)), (0, 1), ((), ("up",))):
            # NotAllowed is raised ahead of Missing, too.
            for lets in ((0,), ()):
                machine = (letters, ((0,) * len(letters),), lets)
                for call in (distance, first_nearest, count_nearest):
                    with self.assertRaises(NotAllowed):
                        call(("on",), (1, 1, (1,)), ((),), machine)


if __name__ == "__main__":
    unittest.main()
