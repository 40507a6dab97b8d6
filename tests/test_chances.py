"""chances.py: [12.2], [12.3], [12.4]."""

import itertools
import random
import unittest
from fractions import Fraction

from spansay.chances import MAX_PAIRS, greatest_at, least_at, pairs_met
from spansay.errors import NotAllowed, TooLarge
from spansay.least import machine_of
from tests import naive
from tests.test_gambles import GAMBLE, HALF, ONE, random_gamble
from tests.test_games import random_machine

FACTS = ("on", "up")
ENDS_ON = ("some", "ends", ("fact", "on"))


def told(fraction):
    return (fraction.numerator, fraction.denominator)


def met(gamble, machine):
    """The pairs that are met, going through rows of states up to their number."""
    found = set()
    rows = {(state, machine[1][0][machine[0].index(gamble[0][state])]) for state, _ in gamble[1]}
    while not rows <= found:
        found |= rows
        rows = {
            (after, machine[1][room][machine[0].index(gamble[0][after])])
            for state, room in rows for lot in gamble[2][state] for after, _ in lot
        }
    return tuple(sorted(found))


def rows_of(gamble, many):
    """All rows of so many states that may come."""
    rows = [(state,) for state, _ in gamble[1]]
    for _ in range(many - 1):
        rows = [row + (after,) for row in rows for after in {s for lot in gamble[2][row[-1]] for s, _ in lot}]
    return sorted(set(rows))


def chance_by(gamble, machine, many, plan):
    """The chance that the machine lets the run of so many places by, if choices are those of a plan."""
    total = Fraction(0)
    waiting = [((state,), Fraction(*part)) for state, part in gamble[1]]
    while waiting:
        row, chance = waiting.pop()
        if len(row) == many:
            if naive.lets(machine, [gamble[0][state] for state in row]):
                total += chance
            continue
        for after, part in gamble[2][row[-1]][plan[row]]:
            waiting.append((row + (after,), chance * Fraction(*part)))
    return total


def plans(gamble, many):
    """All plans up to so many places, None if there are too many."""
    rows = [row for length in range(1, many) for row in rows_of(gamble, length)]
    ways = 1
    for row in rows:
        ways *= len(gamble[2][row[-1]])
    if ways > 600:
        return None
    return [
        dict(zip(rows, chosen))
        for chosen in itertools.product(*[range(len(gamble[2][row[-1]])) for row in rows])
    ]


class PairsTest(unittest.TestCase):
    def test_constant(self):
        self.assertEqual(MAX_PAIRS, 60)

    def test_pairs(self):
        rng = random.Random(167)
        for _ in range(200):
            facts = FACTS[:rng.randint(1, 2)]
            gamble = random_gamble(rng, facts, rng.randint(1, 5))
            machine = random_machine(rng, facts, rng.randint(1, 8))
            self.assertEqual(pairs_met(facts, gamble, machine), met(gamble, machine))

    def test_states_that_are_never_drawn(self):
        gamble = (((), (), ()), ((1, ONE),), ((((2, ONE),),), (((1, ONE),),), (((2, ONE),),)))
        machine = machine_of(("on",), ("point",))
        self.assertEqual(pairs_met(("on",), gamble, machine), met(gamble, machine))
        self.assertEqual({state for state, _ in met(gamble, machine)}, {1})


class AtTest(unittest.TestCase):
    def test_examples(self):
        machine = machine_of(("on",), ENDS_ON)
        found = greatest_at(("on",), GAMBLE, machine, 2), greatest_at(("on",), GAMBLE, machine, 3)
        self.assertEqual(found, ((1, 2), (3, 4)))
        self.assertEqual(least_at(("on",), GAMBLE, machine, 3), (1, 4))

    def test_against_all_plans(self):
        rng = random.Random(168)
        kinds = {}
        tried = 0
        while tried < 1500:
            facts = FACTS[:rng.randint(1, 2)]
            gamble = random_gamble(rng, facts, rng.randint(1, 3), rng.choice([1, 2, 3]))
            machine = random_machine(rng, facts, rng.randint(1, 4))
            many = rng.randint(1, 4)
            every = plans(gamble, many)
            if every is None:
                continue
            tried += 1
            found = [chance_by(gamble, machine, many, plan) for plan in every]
            self.assertEqual(greatest_at(facts, gamble, machine, many), told(max(found)))
            self.assertEqual(least_at(facts, gamble, machine, many), told(min(found)))
            kinds[len(every) == 1, min(found) == max(found)] = kinds.get((len(every) == 1, min(found) == max(found)), 0) + 1
        self.assertGreater(kinds[True, True], 20)
        self.assertGreater(kinds[False, False], 50)

    def test_a_plan_may_hang_on_the_whole_row(self):
        # The run is kept if its third scene is that of its first one: what is chosen hangs on that.
        gamble = (((), ("on",), ()), ((0, HALF), (1, HALF)), (
            (((2, ONE),),), (((2, ONE),),), (((0, ONE),), ((1, ONE),)),
        ))
        moves = ((1, 2), (3, 3), (4, 4), (5, 6), (6, 5), (5, 5), (6, 6))
        machine = (((), ("on",)), moves, (5,))
        self.assertEqual(greatest_at(("on",), gamble, machine, 3), (1, 1))
        self.assertEqual(least_at(("on",), gamble, machine, 3), (0, 1))

    def test_numbers_of_places(self):
        machine = machine_of(("on",), ENDS_ON)
        for many in (0, -1, 201, 10 ** 9):
            for call in (greatest_at, least_at):
                with self.assertRaises(NotAllowed):
                    call(("on",), GAMBLE, machine, many)
        self.assertEqual(greatest_at(("on",), GAMBLE, machine, 1), (0, 1))
        self.assertEqual(greatest_at(("on",), GAMBLE, machine, 200), (2 ** 199 - 1, 2 ** 199))
        # It is best to stay with the state that is on, and to leave it at last.
        self.assertEqual(least_at(("on",), GAMBLE, machine, 200), (1, 2 ** 199))

    def test_great_denominators(self):
        lot = ((0, (1, 997)), (1, (996, 997)))
        other = ((0, (1, 991)), (1, (990, 991)))
        gamble = (((), ("on",)), lot, ((lot, other), (other,)))
        machine = machine_of(("on",), ("fact", "on"))
        expected = Fraction(996, 997) * Fraction(990, 991) ** 199
        self.assertEqual(greatest_at(("on",), gamble, machine, 200), told(expected))

    def test_letters_that_are_not_the_scenes(self):
        for letters in ((("on",), ()), ((), ("on",), ("up",)), (0, 1), ((), ("up",)), ((),)):
            machine = (letters, ((0,) * len(letters),), ())
            for call in (
                lambda: pairs_met(("on",), GAMBLE, machine), lambda: greatest_at(("on",), GAMBLE, machine, 1),
                lambda: least_at(("on",), GAMBLE, machine, 1),
            ):
                with self.assertRaises(NotAllowed):
                    call()

    def large(self, rooms):
        """A gamble of one scene, and a machine that counts places up to a number and begins again."""
        lot = ((0, ONE),)
        machine = (((), ("on",)), tuple(((at + 1) % rooms,) * 2 for at in range(rooms)), (0,))
        return (((),), lot, ((lot,),)), machine

    def test_sixty_pairs_and_more(self):
        gamble, machine = self.large(60)
        self.assertEqual(len(pairs_met(("on",), gamble, machine)), 60)
        self.assertEqual(greatest_at(("on",), gamble, machine, 60), (1, 1))
        self.assertEqual(least_at(("on",), gamble, machine, 61), (0, 1))
        # A second state that is drawn just once gives one pair more.
        first = ((1, ONE),)
        gamble = (((), ()), first, ((((0, ONE),),), (((0, ONE),),)))
        self.assertEqual(len(met(gamble, machine)), 61)
        for call in (
            lambda: pairs_met(("on",), gamble, machine), lambda: greatest_at(("on",), gamble, machine, 1),
            lambda: least_at(("on",), gamble, machine, 200),
        ):
            with self.assertRaises(TooLarge):
                call()
        # 59 rooms and that state: 60 pairs.
        _, machine = self.large(59)
        self.assertEqual(len(pairs_met(("on",), gamble, machine)), 60)

    def test_order_of_errors(self):
        _, machine = self.large(60)
        gamble = (((), ()), ((1, ONE),), ((((0, ONE),),), (((0, ONE),),)))
        wrong = ((("on",), ()),) + machine[1:]
        for call in (greatest_at, least_at):
            for many in (0, 201):
                with self.assertRaises(NotAllowed):
                    call(("on",), gamble, machine, many)
            with self.assertRaises(NotAllowed):
                call(("on",), gamble, wrong, 5)
            with self.assertRaises(TooLarge):
                call(("on",), gamble, machine, 5)
        with self.assertRaises(NotAllowed):
            pairs_met(("on",), gamble, wrong)


if __name__ == "__main__":
    unittest.main()
