"""gambles.py: [12.1], [12.2]."""

import random
import unittest
from fractions import Fraction

from spansay.errors import NotAllowed
from spansay.gambles import MAX_OPTIONS, MAX_PART, check_gamble, is_plain, system_of
from spansay.systems import check_system
from tests import naive

FACTS = ("on", "up")
HALF, ONE = (1, 2), (1, 1)
GAMBLE = (((), ("on",)), ((0, ONE),), ((((0, HALF), (1, HALF)),), (((1, ONE),), ((0, ONE),))))


def random_lot(rng, many, most=1000):
    """A random lot over so many states."""
    states = sorted(rng.sample(range(many), rng.randint(1, min(many, 3))))
    whole = rng.choice([1, 2, 3, 4, 6, 7, 12, 100, most])
    while whole < len(states):
        whole += 1
    cuts = sorted(rng.sample(range(1, whole), len(states) - 1))
    parts = [after - before for before, after in zip([0] + cuts, cuts + [whole])]
    return tuple((s, (Fraction(p, whole).numerator, Fraction(p, whole).denominator)) for s, p in zip(states, parts))


def random_gamble(rng, facts, many, options=3):
    """A random gamble with so many states."""
    scenes = tuple(rng.choice(naive.scenes(facts)) for _ in range(many))
    rows = tuple(tuple(random_lot(rng, many) for _ in range(rng.randint(1, options))) for _ in range(many))
    return (scenes, random_lot(rng, many), rows)


def is_lot(lot, many):
    """[12.2] word by word."""
    states = [state for state, _ in lot]
    if states != sorted(set(states)) or any(not 0 <= state < many for state in states):
        return False
    for _, (a, b) in lot:
        if b < 1 or b > 1000 or a <= 0 or (Fraction(a, b).numerator, Fraction(a, b).denominator) != (a, b):
            return False
    return sum((Fraction(a, b) for _, (a, b) in lot), Fraction(0)) == 1


class GamblesTest(unittest.TestCase):
    def refused(self, *gambles):
        for gamble in gambles:
            with self.assertRaises(NotAllowed, msg=gamble):
                check_gamble(FACTS, gamble)

    def lots_around(self, lot):
        """The example gamble with another lot in each place."""
        scenes, starts, options = GAMBLE
        return (
            (scenes, lot, options), (scenes, starts, ((lot,), options[1])),
            (scenes, starts, (options[0], (options[1][0], lot))), (scenes, starts, (options[0], (lot, options[1][1]))),
        )

    def test_examples(self):
        self.assertIsNone(check_gamble(("on",), GAMBLE))
        found = is_plain(GAMBLE), system_of(GAMBLE)
        self.assertEqual(found, (False, (((), ("on",)), (0,), ((0, 1), (0, 1)))))

    def test_constants(self):
        self.assertEqual((MAX_PART, MAX_OPTIONS), (1000, 4))

    def test_right_ones(self):
        rng = random.Random(164)
        for _ in range(300):
            gamble = random_gamble(rng, FACTS, rng.randint(1, 8), 4)
            self.assertIsNone(check_gamble(FACTS, gamble))
            self.assertIs(is_plain(gamble), all(len(lots) == 1 for lots in gamble[2]))
            self.assertIsNone(check_system(FACTS, system_of(gamble)))

    def test_number_of_states(self):
        lot = ((0, ONE),)
        for many in (1, 2, 7, 8):
            self.assertIsNone(check_gamble(FACTS, (((),) * many, lot, ((lot,),) * many)))
        self.refused(((), lot, ()), (((),) * 9, lot, ((lot,),) * 9), ((), (), ()))

    def test_scenes(self):
        scenes, starts, options = GAMBLE
        for scene in (("x",), ("up", "on"), ("on", "on"), ("",), ("on up",), ("on", "up", "on")):
            self.refused(((scene, ()), starts, options), (((), scene), starts, options))
        self.assertIsNone(check_gamble(FACTS, ((("on", "up"), ("up",)), starts, options)))
        with self.assertRaises(NotAllowed):
            check_gamble(("up",), GAMBLE)

    def test_rows_of_options(self):
        scenes, starts, options = GAMBLE
        self.refused((scenes, starts, options[:1]), (scenes, starts, options + options[:1]), (scenes, starts, ()))
        self.refused((scenes, starts, ((), options[1])), (scenes, starts, (options[0], ())))
        for many in (1, 2, 3, 4):
            self.assertIsNone(check_gamble(FACTS, (scenes, starts, (options[0] * many, options[0]))))
        self.refused((scenes, starts, (options[0] * 5, options[0])), (scenes, starts, (options[0], options[0] * 5)))

    def test_lots_spoilt(self):
        for lot in (
            (), ((2, ONE),), ((-1, ONE),), ((0, HALF), (2, HALF)), ((0, HALF), (0, HALF)), ((1, HALF), (0, HALF)),
            ((0, HALF),), ((0, HALF), (1, ONE)), ((0, (1, 3)), (1, HALF)), ((0, (2, 3)), (1, HALF)), ((0, ONE), (1, (0, 1))),
            ((0, (3, 2)), (1, (-1, 2))), ((0, (2, 2)),), ((0, (2, 4)), (1, HALF)), ((0, (-1, -1)),), ((0, (1, 0)),),
            ((0, (1, -2)), (1, (3, 2))), ((0, (2, 1)),), ((0, (1, 1001)), (1, (1000, 1001))), ((0, (0, 1)),), ((0, (0, 0)),),
            ((0, (-1, 1)), (1, (2, 1))), ((0, ONE), (1, ONE)), ((0, (499, 1000)), (1, HALF)), ((0, (501, 1000)), (1, HALF)),
        ):
            self.assertFalse(is_lot(lot, 2))
            self.refused(*self.lots_around(lot))

    def test_lots_that_are_right(self):
        for lot in (
            ((0, ONE),), ((1, ONE),), ((0, (1, 1000)), (1, (999, 1000))), ((0, (1, 3)), (1, (2, 3))),
            ((0, (998, 999)), (1, (1, 999))),
        ):
            self.assertTrue(is_lot(lot, 2))
            for gamble in self.lots_around(lot):
                self.assertIsNone(check_gamble(FACTS, gamble))

    def test_random_lots(self):
        rng = random.Random(165)
        counts = {}
        for _ in range(4000):
            lot = list(random_lot(rng, 2, 1001))
            if rng.random() < 0.5:
                at = rng.randrange(len(lot))
                state, (a, b) = lot[at]
                lot[at] = (state + rng.choice([-1, 0, 0, 1]), (a + rng.choice([-1, 0, 1]), b + rng.choice([-1, 0, 1])))
            expected = is_lot(lot, 2)
            counts[expected] = counts.get(expected, 0) + 1
            for gamble in self.lots_around(tuple(lot)):
                if expected:
                    self.assertIsNone(check_gamble(FACTS, gamble))
                else:
                    self.refused(gamble)
        self.assertGreater(min(counts[True], counts[False]), 500)

    def test_systems(self):
        rng = random.Random(166)
        for _ in range(200):
            gamble = random_gamble(rng, FACTS, rng.randint(1, 6))
            scenes, firsts, moves = system_of(gamble)
            self.assertEqual(scenes, gamble[0])
            self.assertEqual(firsts, tuple(state for state, _ in gamble[1]))
            for row, lots in zip(moves, gamble[2]):
                self.assertEqual(set(row), {state for lot in lots for state, _ in lot})
                self.assertEqual(row, tuple(sorted(set(row))))

    def test_plain(self):
        lot = ((0, ONE),)
        self.assertIs(is_plain((((),), lot, ((lot,),))), True)
        self.assertIs(is_plain((((),), lot, ((lot, lot),))), False)
        self.assertIs(is_plain((((), ()), lot, ((lot,), (lot, lot)))), False)


if __name__ == "__main__":
    unittest.main()
