"""ever.py: [12.3], [12.5] to [12.8]."""

import itertools
import random
import unittest
from fractions import Fraction

from spansay.errors import BadPaper, NotAllowed, TooLarge
from spansay.ever import chance_of, greatest_ever, judge_greatest, judge_least, least_ever, settled_rooms
from spansay.least import machine_of
from tests import naive
from tests.test_chances import met, told
from tests.test_gambles import GAMBLE, HALF, ONE, random_gamble
from tests.test_games import random_machine

FACTS = ("on", "up")
ALONE = ("on",)
INNER = machine_of(ALONE, ("some", "during", ("fact", "on")))
NOTHING = (0, 1)


class Slow:
    """A gamble with a machine, as rows of pairs and their options."""

    def __init__(self, gamble, machine, goals):
        self.pairs = met(gamble, machine)
        self.goals = [room in goals for _, room in self.pairs]
        self.options = []
        for state, room in self.pairs:
            self.options.append([self.lot(gamble, machine, room, lot) for lot in gamble[2][state]])
        self.starts = self.lot(gamble, machine, 0, gamble[1])

    def lot(self, gamble, machine, room, lot):
        found = []
        for state, part in lot:
            after = machine[1][room][machine[0].index(gamble[0][state])]
            found.append((self.pairs.index((state, after)), Fraction(*part)))
        return found

    def mean(self, lot, values):
        return sum(part * values[at] for at, part in lot)

    def by_choices(self, choices):
        """The chances ever if choices hang on the pair alone, by the equations; pairs that lead to no goal have 0."""
        leads = set(at for at, goal in enumerate(self.goals) if goal)
        while True:
            wider = leads | {
                at for at, choice in enumerate(choices) if any(after in leads for after, _ in self.options[at][choice])
            }
            if wider == leads:
                break
            leads = wider
        unknown = [at for at in sorted(leads) if not self.goals[at]]
        rows = []
        for at in unknown:
            row = [Fraction(0)] * (len(unknown) + 1)
            row[unknown.index(at)] += 1
            for after, part in self.options[at][choices[at]]:
                if self.goals[after]:
                    row[-1] += part
                elif after in leads:
                    row[unknown.index(after)] -= part
            rows.append(row)
        found = solve(rows)
        values = [Fraction(1 if goal else 0) for goal in self.goals]
        for at, value in zip(unknown, found):
            values[at] = value
        return values

    def all_choices(self, most=400):
        """All ways to choose by the pair alone, None if there are too many."""
        many = 1
        for lots in self.options:
            many *= len(lots)
        return None if many > most else list(itertools.product(*[range(len(lots)) for lots in self.options]))

    def best(self, greatest):
        """The greatest or least chances ever for each pair, over all ways to choose; None if there are too many."""
        every = self.all_choices()
        if every is None:
            return None
        found = [self.by_choices(choices) for choices in every]
        return [(max if greatest else min)(values) for values in zip(*found)]

    def paper(self, values, greatest):
        """[12.7], word by word: ranks by going round until nothing is new."""
        ranks = [0 if goal or value == 0 else None for goal, value in zip(self.goals, values)]
        choices = [0] * len(ranks)
        best = [[k for k, lot in enumerate(lots) if self.mean(lot, values) == value]
                for lots, value in zip(self.options, values)]
        rank = 0
        while None in ranks:
            rank += 1
            known = list(ranks)
            for at, lots in enumerate(self.options):
                if known[at] is not None:
                    continue
                least = [min([known[b] for b, _ in lot if values[b] > 0 and known[b] is not None], default=None) for lot in lots]
                if greatest:
                    if any(least[k] is not None for k in best[at]):
                        ranks[at] = 1 + min(least[k] for k in best[at] if least[k] is not None)
                        choices[at] = [k for k in best[at] if least[k] == ranks[at] - 1][0]
                elif None not in least:
                    ranks[at] = 1 + max(least)
        for at in range(len(ranks)):
            if not self.goals[at] and (values[at] == 0 or not greatest):
                choices[at] = best[at][0]
        return tuple(
            (state, room, told(values[at]), choices[at], ranks[at]) for at, (state, room) in enumerate(self.pairs)
        )

    def is_right(self, paper, greatest):
        """[12.6], word by word."""
        if tuple((state, room) for state, room, *_ in paper) != self.pairs:
            return False
        for (_, _, value, choice, rank), lots in zip(paper, self.options):
            a, b = value
            if b < 1 or (Fraction(a, b).numerator, Fraction(a, b).denominator) != value or not 0 <= Fraction(a, b) <= 1:
                return False
            if not 0 <= choice < len(lots) or rank < 0:
                return False
        values = [Fraction(*line[2]) for line in paper]
        for at, (_, _, _, choice, rank) in enumerate(paper):
            if self.goals[at]:
                if values[at] != 1:
                    return False
                continue
            means = [self.mean(lot, values) for lot in self.options[at]]
            if means[choice] != values[at] or (max if greatest else min)(means) != values[at]:
                return False
            needed = [self.options[at][choice]] if greatest else self.options[at]
            if values[at] > 0 and not all(any(values[b] > 0 and paper[b][4] < rank for b, _ in lot) for lot in needed):
                return False
        return True


def solve(rows):
    """The unknown numbers of equations, over fractions."""
    rows = [list(row) for row in rows]
    for at in range(len(rows)):
        pivot = next(k for k in range(at, len(rows)) if rows[k][at])
        rows[at], rows[pivot] = rows[pivot], rows[at]
        rows[at] = [value / rows[at][at] for value in rows[at]]
        for k in range(len(rows)):
            if k != at:
                rows[k] = [value - rows[k][at] * other for value, other in zip(rows[k], rows[at])]
    return [row[-1] for row in rows]


def random_case(rng, states=4, rooms=4):
    facts = FACTS[:rng.randint(1, 2)]
    gamble = random_gamble(rng, facts, rng.randint(1, states), rng.choice([1, 2, 3]))
    machine = random_machine(rng, facts, rng.randint(1, rooms))
    goals = tuple(room for room in range(len(machine[1])) if rng.random() < 0.3)
    return facts, gamble, machine, goals


class SettledTest(unittest.TestCase):
    def test_examples(self):
        self.assertEqual((settled_rooms(INNER, True), settled_rooms(INNER, False)), ((3,), ()))

    def test_settled(self):
        rng = random.Random(203)
        counts = {}
        for _ in range(400):
            facts = FACTS[:rng.randint(1, 2)]
            machine = random_machine(rng, facts, rng.randint(1, 6))
            for well in (True, False):
                expected = []
                for room in range(len(machine[1])):
                    found = {room}
                    for _ in machine[1]:
                        found |= {after for at in found for after in machine[1][at]}
                    if all((at in machine[2]) == well for at in found):
                        expected.append(room)
                self.assertEqual(settled_rooms(machine, well), tuple(expected))
                counts[well, len(expected)] = counts.get((well, len(expected)), 0) + 1
        for key in ((True, 0), (True, 1), (True, 2), (False, 0), (False, 1), (False, 2)):
            self.assertGreater(counts[key], 5)

    def test_other_letters(self):
        machine = ((7, "x"), ((1, 0), (1, 1)), (0, 1))
        self.assertEqual((settled_rooms(machine, True), settled_rooms(machine, False)), ((0, 1), ()))
        self.assertEqual(settled_rooms(((7,), ((0,),), ()), False), (0,))


class EverTest(unittest.TestCase):
    def test_examples(self):
        self.assertEqual(greatest_ever(ALONE, GAMBLE, INNER, (3,))[0], (1, 1))
        self.assertIsNone(judge_greatest(ALONE, GAMBLE, INNER, (3,), greatest_ever(ALONE, GAMBLE, INNER, (3,))[1]))

    def test_against_all_ways_to_choose(self):
        rng = random.Random(204)
        seen = {}
        tried = 0
        while tried < 500:
            case = random_case(rng)
            slow = Slow(*case[1:])
            if slow.all_choices() is None:
                continue
            tried += 1
            for greatest, call, judge in ((True, greatest_ever, judge_greatest), (False, least_ever, judge_least)):
                values = slow.best(greatest)
                chance, paper = call(*case)
                self.assertEqual(chance, told(slow.mean(slow.starts, values) + Fraction(0)))
                self.assertEqual(paper, slow.paper(values, greatest))
                self.assertTrue(slow.is_right(paper, greatest))
                self.assertIsNone(judge(*case, paper))
                self.assertEqual(chance_of(*case[:3], paper), chance)
                kind = "none" if chance == (0, 1) else "sure" if chance == (1, 1) else "some"
                seen[greatest, kind] = seen.get((greatest, kind), 0) + 1
        for greatest in (True, False):
            for kind in ("none", "sure", "some"):
                self.assertGreater(seen[greatest, kind], 8)

    def layered(self, rng):
        """A gamble whose choices matter: one way or another leads to a goal, round about."""
        many = rng.randint(3, 6)
        scenes = tuple(rng.choice(naive.scenes(ALONE)) for _ in range(many))
        rows = []
        for state in range(many):
            lots = []
            for _ in range(rng.randint(1, 3)):
                ends = sorted(rng.sample(range(many), 2))
                part = Fraction(rng.randint(1, 6), 7)
                lots.append(rng.choice([
                    ((ends[0], told(part)), (ends[1], told(1 - part))), ((rng.randrange(many), ONE),),
                    ((state, HALF), ((state + 1) % many, HALF)) if state + 1 < many else ((state, ONE),),
                ]))
            rows.append(tuple(lots))
        return (scenes, ((rng.randrange(many), ONE),), tuple(rows))

    def test_gambles_whose_choices_matter(self):
        rng = random.Random(205)
        different = 0
        tried = 0
        while tried < 300:
            gamble = self.layered(rng)
            machine = (((), ("on",)), ((0, 1), (0, 2), (2, 2)), (2,))
            case = (ALONE, gamble, machine, (2,))
            slow = Slow(*case[1:])
            if slow.all_choices(1500) is None:
                continue
            tried += 1
            told_chances = []
            for greatest, call in ((True, greatest_ever), (False, least_ever)):
                values = slow.best(greatest)
                if values is None:
                    break
                chance, paper = call(*case)
                self.assertEqual(paper, slow.paper(values, greatest))
                told_chances.append(chance)
            different += len(set(told_chances)) > 1
        self.assertGreater(different, 50)

    def test_no_goals_and_all_rooms(self):
        rng = random.Random(206)
        for _ in range(60):
            facts, gamble, machine, _ = random_case(rng)
            every = tuple(range(len(machine[1])))
            for call, judge in ((greatest_ever, judge_greatest), (least_ever, judge_least)):
                chance, paper = call(facts, gamble, machine, ())
                self.assertEqual(chance, (0, 1))
                self.assertEqual({(line[2], line[4]) for line in paper}, {((0, 1), 0)})
                self.assertEqual({line[3] for line in paper}, {0})
                self.assertIsNone(judge(facts, gamble, machine, (), paper))
                chance, paper = call(facts, gamble, machine, every)
                self.assertEqual(chance, (1, 1))
                self.assertEqual({line[2:] for line in paper}, {((1, 1), 0, 0)})
                self.assertIsNone(judge(facts, gamble, machine, every, paper))

    def test_staying_among_values_above_0_is_no_paper(self):
        # The first option stays for ever; its mean is that of the second one. The choice goes on all the same.
        gamble = (((), ("on",)), ((0, ONE),), ((((0, ONE),), ((0, HALF), (1, HALF))), (((1, ONE),),)))
        machine = machine_of(ALONE, ("some", "ends", ("fact", "on")))
        goals = machine[2]
        chance, paper = greatest_ever(ALONE, gamble, machine, goals)
        self.assertEqual(chance, (1, 1))
        self.assertEqual([line[3] for line in paper if line[0] == 0], [1] * len([line for line in paper if line[0] == 0]))
        spoilt = tuple(line[:3] + (0,) + line[4:] if line[0] == 0 else line for line in paper)
        with self.assertRaises(BadPaper):
            judge_greatest(ALONE, gamble, machine, goals, spoilt)
        self.assertEqual(least_ever(ALONE, gamble, machine, goals)[0], (0, 1))

    def test_great_gambles(self):
        rng = random.Random(207)
        facts = ("on", "up", "x")
        tried = 0
        while tried < 6:
            gamble = random_gamble(rng, facts, 8, 4)
            machine = random_machine(rng, facts, rng.randint(8, 12))
            try:
                chance, paper = greatest_ever(facts, gamble, machine, (0, 3))
            except TooLarge:
                continue
            tried += 1
            self.assertIsNone(judge_greatest(facts, gamble, machine, (0, 3), paper))
            self.assertEqual(chance_of(facts, gamble, machine, paper), chance)
            least, paper = least_ever(facts, gamble, machine, (0, 3))
            self.assertIsNone(judge_least(facts, gamble, machine, (0, 3), paper))
            self.assertLessEqual(Fraction(*least), Fraction(*chance))


class JudgeTest(unittest.TestCase):
    def judge(self, slow, case, greatest, paper):
        """Compare with the words of the document."""
        call = judge_greatest if greatest else judge_least
        right = slow.is_right(paper, greatest)
        if right:
            self.assertIsNone(call(*case, paper))
        else:
            with self.assertRaises(BadPaper, msg=(case, paper)):
                call(*case, paper)
        return right

    def test_spoilt_papers(self):
        rng = random.Random(208)
        counts = {}
        for _ in range(150):
            case = random_case(rng, 3, 3)
            slow = Slow(*case[1:])
            for greatest, call in ((True, greatest_ever), (False, least_ever)):
                _, paper = call(*case)
                self.judge(slow, case, not greatest, paper)
                for wrong in ((), paper[1:], paper[:-1], paper + paper[-1:], paper[::-1] if len(paper) > 1 else ()):
                    self.assertFalse(self.judge(slow, case, greatest, wrong))
                for k, line in enumerate(paper):
                    for other in self.lines(line):
                        right = self.judge(slow, case, greatest, paper[:k] + (other,) + paper[k + 1:])
                        counts[greatest, right] = counts.get((greatest, right), 0) + 1
                raised = tuple(line[:4] + (3 * line[4] + 5,) for line in paper)
                self.assertTrue(self.judge(slow, case, greatest, raised))
        for greatest in (True, False):
            self.assertGreater(counts[greatest, True], 100)
            self.assertGreater(counts[greatest, False], 500)

    def lines(self, line):
        state, room, (a, b), choice, rank = line
        for value in (
            (0, 1), (1, 1), (a + b, b), (a - b, b), (2 * a, 2 * b), (-a, -b), (a, 0), (b - a, b), (a + 1, b + 1), (1, 2), (2, 1),
            (-1, 2), (a, b + 1), (0, 5),
        ):
            yield (state, room, value, choice, rank)
        for other in (-1, 0, 1, 2, 4, choice + 1, choice - 1):
            yield (state, room, (a, b), other, rank)
        for other in (-1, 0, 1, rank + 1, rank - 1, 99):
            yield (state, room, (a, b), choice, other)
        for other in ((state + 1, room), (state, room + 1), (state - 1, room), (room, state)):
            yield other + ((a, b), choice, rank)

    def test_values_that_are_too_great_all_round(self):
        # All values 1: right by the means, but no goal can be come to.
        gamble = (((),), ((0, ONE),), ((((0, ONE),),),))
        machine = machine_of(ALONE, ("fact", "on"))
        pairs = met(gamble, machine)
        for judge in (judge_greatest, judge_least):
            paper = tuple((state, room, (1, 1), 0, 5 - at) for at, (state, room) in enumerate(pairs))
            with self.assertRaises(BadPaper):
                judge(ALONE, gamble, machine, (), paper)
            paper = tuple((state, room, (0, 1), 0, 5 - at) for at, (state, room) in enumerate(pairs))
            self.assertIsNone(judge(ALONE, gamble, machine, (), paper))


class ErrorsTest(unittest.TestCase):
    def calls(self, gamble, machine, goals):
        paper = ()
        return (
            lambda: greatest_ever(ALONE, gamble, machine, goals), lambda: least_ever(ALONE, gamble, machine, goals),
            lambda: judge_greatest(ALONE, gamble, machine, goals, paper),
            lambda: judge_least(ALONE, gamble, machine, goals, paper),
        )

    def refused(self, error, gamble, machine, goals):
        for call in self.calls(gamble, machine, goals):
            with self.assertRaises(error):
                call()

    def test_goals_that_are_none(self):
        for goals in ((4,), (-1,), (1, 0), (0, 0), (0, 1, 4), (2, 1), (0, 2, 2), (10 ** 9,)):
            self.refused(NotAllowed, GAMBLE, INNER, goals)
        for goals in ((), (0,), (3,), (0, 3), (0, 1, 2, 3)):
            greatest_ever(ALONE, GAMBLE, INNER, goals)

    def test_letters_that_are_not_the_scenes(self):
        for letters in ((("on",), ()), ((), ("on",), ("up",)), (0, 1), ((), ("up",))):
            machine = (letters, ((0,) * len(letters),), ())
            for goals in ((), (0,), (7,)):
                self.refused(NotAllowed, GAMBLE, machine, goals)
            with self.assertRaises(NotAllowed):
                chance_of(ALONE, GAMBLE, machine, ())

    def test_sixty_pairs_and_more(self):
        # A machine that counts places and begins again; a second state is drawn just once.
        gamble = (((), ()), ((1, ONE),), ((((0, ONE),),), (((0, ONE),),)))
        for rooms in (59, 60):
            machine = (((), ("on",)), tuple(((at + 1) % rooms,) * 2 for at in range(rooms)), (0,))
            if rooms == 60:
                self.refused(TooLarge, gamble, machine, (0,))
                self.refused(NotAllowed, gamble, machine, (60,))
                self.refused(NotAllowed, gamble, ((("on",), ()),) + machine[1:], (0,))
                with self.assertRaises(TooLarge):
                    chance_of(ALONE, gamble, machine, ())
            else:
                chance, paper = greatest_ever(ALONE, gamble, machine, (0,))
                self.assertEqual((chance, len(paper)), ((1, 1), 60))
                self.assertEqual([line[4] for line in paper if line[0] == 0], [0] + list(range(58, 0, -1)))
                self.assertIsNone(judge_greatest(ALONE, gamble, machine, (0,), paper))
                self.assertIsNone(judge_least(ALONE, gamble, machine, (0,), least_ever(ALONE, gamble, machine, (0,))[1]))
                with self.assertRaises(BadPaper):
                    judge_least(ALONE, gamble, machine, (0,), ())


if __name__ == "__main__":
    unittest.main()
