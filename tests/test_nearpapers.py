"""nearpapers.py: [11.1] to [11.4]."""

import random
import unittest

from spansay.errors import BadPaper, Missing, NotAllowed
from spansay.least import machine_of
from spansay.near import distance, first_nearest
from spansay.nearpapers import bounds_of, judge_nearest
from tests import naive
from tests.test_near import ONE, all_mends, has_runs, price, random_machine

FACTS = ("on", "up")


def are_sound(facts, prices, run, machine, bounds):
    """[11.4] word by word."""
    put, leave, _ = prices
    letters, moves, lets = machine
    nothing = len(moves)
    if len(bounds) != len(run) + 1 or any(len(row) != nothing + 1 for row in bounds):
        return False
    rooms = moves + (moves[0],)
    for s in range(nothing + 1):
        if s in lets and bounds[len(run)][s] > 0:
            return False
        for k in range(len(run) + 1):
            if k < len(run):
                if bounds[k][s] > leave + bounds[k + 1][s]:
                    return False
                for at, scene in enumerate(letters):
                    cost = 0 if scene == run[k] else price(facts, prices, ("turn", scene), run[k])
                    if bounds[k][s] > cost + bounds[k + 1][rooms[s][at]]:
                        return False
            for at in range(len(letters)):
                if bounds[k][s] > put + bounds[k][rooms[s][at]]:
                    return False
    return True


def random_case(rng, states=4, places=4):
    facts = FACTS[:rng.randint(1, 2)]
    machine = random_machine(rng, facts, rng.randint(1, states))
    run = tuple(rng.choice(naive.scenes(facts)) for _ in range(rng.randint(1, places)))
    prices = (rng.randint(1, 6), rng.randint(1, 6), tuple(rng.randint(1, 6) for _ in facts))
    return facts, prices, run, machine


def mend_of(facts, prices, run, machine):
    """The distance, and a mend that has it."""
    return distance(facts, prices, run, machine), first_nearest(facts, prices, run, machine)[1]


class BoundsTest(unittest.TestCase):
    def test_sound_and_the_distance(self):
        rng = random.Random(174)
        distances = {}
        for _ in range(500):
            case = random_case(rng, 6, 6)
            if not has_runs(case[3]):
                with self.assertRaises(Missing):
                    bounds_of(*case)
                continue
            bounds = bounds_of(*case)
            self.assertTrue(are_sound(*case, bounds))
            least = distance(*case)
            self.assertEqual(bounds[0][-1], least)
            distances[least] = distances.get(least, 0) + 1
        self.assertGreater(len(distances), 8)

    def test_long_runs_and_great_machines(self):
        rng = random.Random(175)
        machine = random_machine(rng, ("on", "up", "x"), 60)
        run = tuple(rng.choice(naive.scenes(("on", "up", "x"))) for _ in range(40))
        case = (("on", "up", "x"), (99, 99, (99, 1, 50)), run, machine)
        bounds = bounds_of(*case)
        self.assertTrue(are_sound(*case, bounds))
        self.assertIsNone(judge_nearest(*case, *mend_of(*case), bounds))

    def test_letters_that_are_not_the_scenes(self):
        for letters in ((("on",), ()), ((), ("on",), ("up",)), (0, 1), ((), ("up",))):
            for lets in ((0,), ()):
                machine = (letters, ((0,) * len(letters),), lets)
                with self.assertRaises(NotAllowed):
                    bounds_of(("on",), (1, 1, (1,)), ((),), machine)
                with self.assertRaises(NotAllowed):
                    judge_nearest(("on",), (1, 1, (1,)), ((),), machine, 0, (("go",),), ())

    def test_a_machine_that_lets_by_no_run(self):
        for machine in ((ONE, ((0, 0),), ()), (ONE, ((1, 1), (1, 1)), (0,)), (ONE, ((0, 0), (1, 1)), (1,))):
            with self.assertRaises(Missing):
                bounds_of(("on",), (1, 1, (1,)), ((),), machine)
            for mend in ((("stay",),), (("leave",),), ()):
                with self.assertRaises(BadPaper):
                    judge_nearest(("on",), (1, 1, (1,)), ((),), machine, 0, mend, ((0,) * (len(machine[1]) + 1),) * 2)


class JudgeTest(unittest.TestCase):
    def judge(self, case, price_told, mend, bounds):
        """Compare with the words of the document; the mend is one of the run."""
        facts, prices, run, machine = case
        cost, row = self.told(facts, prices, run, mend)
        right = row is not None and cost == price_told and naive.lets(machine, row)
        right = right and are_sound(*case, bounds) and bounds[0][-1] >= price_told
        if right:
            self.assertIsNone(judge_nearest(*case, price_told, mend, bounds))
        else:
            with self.assertRaises(BadPaper):
                judge_nearest(*case, price_told, mend, bounds)
        return right

    def told(self, facts, prices, run, mend):
        """The price and the new run of a mend, None if it is none."""
        cost, row, place = 0, (), 0
        for deed in mend:
            if deed[0] == "put":
                cost, row = cost + prices[0], row + (deed[1],)
                continue
            if place == len(run):
                return None, None
            if deed[0] == "turn" and deed[1] == run[place]:
                return None, None
            cost += price(facts, prices, deed, run[place])
            row += () if deed[0] == "leave" else (run[place] if deed[0] == "stay" else deed[1],)
            place += 1
        return (cost, row) if place == len(run) and row else (None, None)

    def test_right_papers(self):
        rng = random.Random(176)
        for _ in range(200):
            case = random_case(rng)
            if has_runs(case[3]):
                least, mend = mend_of(*case)
                self.assertTrue(self.judge(case, least, mend, bounds_of(*case)))

    def test_spoilt_papers(self):
        rng = random.Random(177)
        counts = {}
        tried = 0
        while tried < 60:
            case = random_case(rng, 3, 3)
            if not has_runs(case[3]):
                continue
            tried += 1
            least, mend = mend_of(*case)
            bounds = bounds_of(*case)
            for wrong in (least - 1, least + 1, -1, 10 ** 9):
                self.assertFalse(self.judge(case, wrong, mend, bounds))
            for k in range(len(bounds)):
                self.assertFalse(self.judge(case, least, mend, bounds[:k] + bounds[k + 1:]))
                self.assertFalse(self.judge(case, least, mend, bounds[:k] + bounds[k:k + 1] + bounds[k:]))
                for s in range(len(bounds[k])):
                    self.assertFalse(self.judge(case, least, mend, self.with_row(bounds, k, s, ())))
                    self.assertFalse(self.judge(case, least, mend, self.with_row(bounds, k, s, (0, 0))))
                    for more in (-1, 1, -7, 100):
                        key = more, self.judge(case, least, mend, self.with_row(bounds, k, s, (bounds[k][s] + more,)))
                        counts[key] = counts.get(key, 0) + 1
            self.assertFalse(self.judge(case, least, mend, ()))
        for more in (-1, 1):
            self.assertGreater(min(counts[more, True], counts[more, False]), 20)

    def with_row(self, bounds, k, s, told):
        row = bounds[k][:s] + told + bounds[k][s + 1:]
        return bounds[:k] + (row,) + bounds[k + 1:]

    def test_other_mends(self):
        rng = random.Random(178)
        counts = {}
        for _ in range(40):
            case = random_case(rng, 3, 2)
            facts, prices, run, machine = case
            if not has_runs(machine):
                continue
            bounds = bounds_of(*case)
            mends = all_mends(facts, prices, run, distance(*case) + 1)
            for cost, mend, _ in rng.sample(mends, min(60, len(mends))):
                for told in (cost, distance(*case)):
                    right = self.judge(case, told, mend, bounds)
                    counts[right] = counts.get(right, 0) + 1
        self.assertGreater(min(counts[True], counts[False]), 30)

    def test_what_is_no_mend(self):
        every = (ONE, ((0, 0),), (0,))
        case = (("on",), (1, 1, (1,)), (("on",), ()), every)
        bounds = bounds_of(*case)
        self.assertIsNone(judge_nearest(*case, 0, (("stay",), ("stay",)), bounds))
        for mend in (
            (), (("stay",),), (("stay",),) * 3, (("leave",),) * 2, (("stay",), ("go",)), ((), ("stay",), ("stay",)),
            (("stay",), ("turn", ())), (("stay",), ("turn", ("x",))), (("stay",), ("stay", ())), (("turn", ("on",)), ("stay",)),
            (("stay",), ("leave", ())), (("put", ("up",)), ("stay",), ("stay",)), (("",), ("stay",)),
        ):
            for told in (0, 1, 2):
                with self.assertRaises(BadPaper):
                    judge_nearest(*case, told, mend, bounds)

    def test_a_greater_bound_would_not_be_sound(self):
        rng = random.Random(179)
        for _ in range(100):
            case = random_case(rng)
            if has_runs(case[3]):
                bounds = bounds_of(*case)
                rows = tuple(tuple(number + 1 for number in row) for row in bounds)
                self.assertFalse(are_sound(*case, rows))
                least, mend = mend_of(*case)
                self.assertFalse(self.judge(case, least, mend, rows))
                # All numbers less by 1 are sound, but do not tell the distance.
                rows = tuple(tuple(number - 1 for number in row) for row in bounds)
                self.assertTrue(are_sound(*case, rows))
                self.assertFalse(self.judge(case, least, mend, rows))

    def test_example_of_near(self):
        facts, prices = ("on", "up"), (4, 3, (2, 9))
        run = ((), ("up",), ("on",))
        machine = machine_of(facts, ("all", "begins", ("fact", "on")))
        bounds = bounds_of(facts, prices, run, machine)
        self.assertEqual(bounds[0][-1], 4)
        mend = (("turn", ("on",)), ("turn", ("on", "up")), ("stay",))
        self.assertIsNone(judge_nearest(facts, prices, run, machine, 4, mend, bounds))
        with self.assertRaises(BadPaper):
            judge_nearest(facts, prices, run, machine, 4, (("leave",),) + mend[1:], bounds)


if __name__ == "__main__":
    unittest.main()
