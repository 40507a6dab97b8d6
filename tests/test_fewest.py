"""fewest.py: [14.9]."""

import importlib
import itertools
import random
import unittest
from unittest import mock

from spansay.builders import check_builder, wrong_of
from spansay.errors import BadPaper, Missing, NotAllowed, TooLarge
from spansay.fewest import MAX_FEWEST, MAX_TREE, fewest, judge_too_few, too_few
from spansay.games import GOALS
from spansay.least import machine_of
from spansay.sayingtexts import read_saying
from tests import naive
from tests.test_builders import place_of, wins
from tests.test_games import on_cycles, random_machine, reached_by, scene_of
from tests.test_knowledge import choices
from tests.test_sights import random_sight
from tests.test_takers import BEYOND_THE_BOUNDS, FACTS as THREE_FACTS

module = importlib.import_module("spansay.fewest")
ON, LONG = ("fact", "on"), ("not", ("point",))
SAYING = ("and", ("all", "begins", ("or", LONG, ON)), ("all", "ends", ("or", LONG, ("not", ON))))
ALONE = (("on",), (), "builder", "always")
ONE = ((), ("on",))
TWO = ((), ("on",), ("up",), ("on", "up"))
EIGHT = tuple(naive.scenes(THREE_FACTS))
# Found by search: the number of the trees that are looked at, whether one wins then, the number of rooms, the facts,
# the sight and the machine.
NEAR_THE_BOUND = (
    (2998, False, 4, ("on",), ((), ("on",), "builder", "often"), (ONE, ((1, 0), (0, 1)), (1,))),
    (2999, False, 3, ("on", "up"), ((), ("on", "up"), "breaker", "often"),
     (TWO, ((1, 2, 0, 1), (0, 2, 0, 1), (1, 2, 0, 2)), (1,))),
    (2990, True, 3, ("on", "up"), (("up",), ("on",), "breaker", "often"),
     (TWO, ((3, 0, 2, 2), (1, 2, 2, 2), (2, 2, 1, 1), (1, 3, 2, 3)), (2,))),
    (3001, False, 3, THREE_FACTS, (("on", "up"), ("x",), "builder", "once"),
     (EIGHT, ((1, 0, 1, 0, 1, 1, 0, 1), (1, 1, 1, 1, 1, 0, 1, 0)), (0,))),
    (3017, True, 4, ("on", "up"), (("up",), ("on",), "builder", "lastly"),
     (TWO, ((2, 0, 1, 1), (0, 0, 1, 2), (0, 2, 0, 2)), (0, 1))),
)


class Slow:
    """What is there of a builder's machine: a dict of the entries that have values, and the greatest room."""

    def __init__(self, facts, sight, machine, number):
        self.facts, self.sight, self.machine, self.number = facts, sight, machine, number
        self.mine, self.glimpses, self.others = choices(facts, sight)

    def needed(self, there, room, other):
        """The open entry that a choice of the breaker needs first."""
        k, at = place_of(self.sight, self.glimpses, other)
        for entry in (("choice", room, k), ("move", room, at)):
            if entry not in there:
                return entry
        return None

    def step(self, there, pair, other):
        k, at = place_of(self.sight, self.glimpses, other)
        scene = scene_of(self.facts, there["choice", pair[0], k], other)
        return (there["move", pair[0], at], self.machine[1][pair[1]][self.machine[0].index(scene)])

    def graph(self, there):
        """The pairs that are met, what comes behind them, and the first open entry that is needed."""
        pairs, after, needed = [(0, 0)], [], None
        for pair in pairs:
            row = set()
            for other in self.others:
                entry = self.needed(there, pair[0], other)
                if entry is None:
                    coming = self.step(there, pair, other)
                    if coming not in pairs:
                        pairs.append(coming)
                    row.add(pairs.index(coming))
                elif needed is None:
                    needed = entry
            after.append(row)
        return pairs, after, needed

    def is_lost(self, pairs, after):
        """Whether there is a wrong run of what is there."""
        come_to = reached_by(after, after[0])
        breaking = {at for at in range(len(pairs)) if pairs[at][1] not in self.machine[2]}
        goal = self.sight[3]
        if goal == "always":
            return bool(come_to & breaking)
        if goal == "once":
            inner = [{at for at in row if at in breaking} for row in after]
            return bool(on_cycles(inner, reached_by(inner, inner[0])))
        if goal == "often":
            return bool(on_cycles(after, come_to & breaking))
        return bool(on_cycles(after, come_to) & breaking)

    def values(self, there, word):
        if word == "choice":
            return self.mine
        greatest = max((value for entry, value in there.items() if entry[0] == "move"), default=0)
        return [room for room in range(self.number) if room <= greatest + 1]

    def count(self, there=None):
        """The number of the trees that are looked at, and whether one that wins is come to."""
        there = there or {}
        pairs, after, needed = self.graph(there)
        if self.is_lost(pairs, after):
            return 1, False
        if needed is None:
            return 0, True
        many = 1
        for value in self.values(there, needed[0]):
            more, is_won = self.count({**there, needed: value})
            many += more
            if is_won:
                return many, True
        return many, False

    def is_wrong(self, there, stem, cycle):
        pair = (0, 0)
        pairs, told = [pair], []
        for other in stem + cycle:
            if other not in self.others or self.needed(there, pair[0], other) is not None:
                return False
            pair = self.step(there, pair, other)
            pairs.append(pair)
            told.append(pair[1] in self.machine[2])
        goal = self.sight[3]
        if goal == "always":
            return cycle == () and stem != () and not told[-1]
        if cycle == () or pairs[-1] != pairs[len(stem)]:
            return False
        behind = told[len(stem):]
        return {"once": not any(told), "often": not any(behind), "lastly": not all(behind)}[goal]

    def is_right(self, tree, there=None):
        """[14.9], word by word."""
        there = there or {}
        if len(tree) == 3:
            return tree[0] == "wrong" and self.is_wrong(there, tree[1], tree[2])
        word, room, k, trees = tree
        greatest = max((value for entry, value in there.items() if entry[0] == "move"), default=0)
        many = 1 if word == "choice" and self.sight[2] == "builder" else len(self.glimpses)
        if word not in ("choice", "move") or not 0 <= room <= greatest or not 0 <= k < many or (word, room, k) in there:
            return False
        values = self.values(there, word)
        if len(trees) != len(values):
            return False
        return all(self.is_right(part, {**there, (word, room, k): value}) for value, part in zip(values, trees))


def all_builders(facts, sight, number):
    """All builders' machines with so many rooms."""
    mine, glimpses, _ = choices(facts, sight)
    told = list(itertools.product(mine, repeat=1 if sight[2] == "builder" else len(glimpses)))
    rows = list(itertools.product(told, itertools.product(range(number), repeat=len(glimpses))))
    return itertools.product(rows, repeat=number)


def count_builders(facts, sight, number):
    mine, glimpses, _ = choices(facts, sight)
    row = len(mine) ** (1 if sight[2] == "builder" else len(glimpses)) * number ** len(glimpses)
    return row ** number


def slow_fewest(facts, sight, machine, most):
    """The least number of rooms, by trying all machines; None if no number up to `most` is enough."""
    for number in range(1, most + 1):
        if any(wins(facts, sight, machine, builder) for builder in all_builders(facts, sight, number)):
            return number
    return None


def tree_size(tree):
    return 1 + (sum(tree_size(part) for part in tree[3]) if len(tree) == 4 else 0)


class ExamplesTest(unittest.TestCase):
    def test_examples(self):
        self.assertEqual(fewest(("on",), ALONE, SAYING, 4)[0], 2)
        machine = machine_of(("on",), SAYING)
        self.assertIsNone(judge_too_few(("on",), ALONE, machine, 1, too_few(("on",), ALONE, machine, 1)))

    def test_constants(self):
        self.assertEqual((MAX_FEWEST, MAX_TREE), (4, 3000))

    def test_the_example_with_its_tree(self):
        machine = machine_of(("on",), SAYING)
        tree = too_few(("on",), ALONE, machine, 1)
        self.assertTrue(Slow(("on",), ALONE, machine, 1).is_right(tree))
        number, builder = fewest(("on",), ALONE, SAYING, 2)
        self.assertEqual((number, len(builder)), (2, 2))
        self.assertTrue(wins(("on",), ALONE, machine, builder))
        with self.assertRaises(Missing):
            fewest(("on",), ALONE, SAYING, 1)
        for number in (2, 3, 4):
            with self.assertRaises(Missing):
                too_few(("on",), ALONE, machine, number)


class FewestTest(unittest.TestCase):
    def random_case(self, rng, most):
        while True:
            facts = THREE_FACTS[:rng.randint(1, 3)]
            sight = random_sight(rng, facts)
            if count_builders(facts, sight, most) <= 2000:
                return facts, sight

    def test_sayings(self):
        rng = random.Random(243)
        counts = {}
        for _ in range(350):
            most = rng.choice([1, 2, 2, 3])
            facts, sight = self.random_case(rng, most)
            saying = naive.random_saying(rng, facts, rng.randint(1, 7))
            machine = machine_of(facts, saying)
            expected = slow_fewest(facts, sight, machine, most)
            if expected is None:
                with self.assertRaises(Missing):
                    fewest(facts, sight, saying, most)
            else:
                number, builder = fewest(facts, sight, saying, most)
                self.assertEqual((number, len(builder)), (expected, expected))
                self.assertIsNone(check_builder(facts, sight, builder))
                self.assertTrue(wins(facts, sight, machine, builder))
                self.assertIsNone(wrong_of(facts, sight, machine, builder))
            counts[expected] = counts.get(expected, 0) + 1
        self.assertGreater(min(counts[1], counts[None]), 50)

    def test_sayings_that_need_more_rooms(self):
        # Each place but the first has to differ from the one ahead of it, or from the one two ahead, and so on.
        texts = (
            "all ends (not point or not on) and some begins (point and on) or point and on",
            "(point or some begins (point and on) and some ends (point and not on)) and (not point or on)",
            "all ends (not point or on)", "some begins (point and on) and some ends (point and on) or point and not on",
        )
        found = set()
        for text in texts:
            saying = read_saying(("on",), text)
            machine = machine_of(("on",), saying)
            for goal in GOALS:
                for first in ("builder", "breaker"):
                    sight = (("on",), (), first, goal)
                    expected = slow_fewest(("on",), sight, machine, 3)
                    try:
                        number = fewest(("on",), sight, saying, 4)[0]
                    except Missing:
                        number = None
                    if expected is not None:
                        self.assertEqual(number, expected)
                    else:
                        self.assertIn(number, (4, None))
                    found.add(number)
        self.assertLessEqual({1, 2}, found)

    def test_trees_and_their_sizes(self):
        rng = random.Random(244)
        counts = {}
        for _ in range(500):
            facts = THREE_FACTS[:rng.randint(1, 3)]
            sight = random_sight(rng, facts)
            machine = random_machine(rng, facts, rng.randint(1, 4))
            number = rng.randint(1, 3)
            slow = Slow(facts, sight, machine, number)
            try:
                tree = too_few(facts, sight, machine, number)
            except TooLarge:
                continue
            except Missing:
                if count_builders(facts, sight, number) <= 300:
                    self.assertIsNotNone(slow_fewest(facts, sight, machine, number))
                counts[number, None] = counts.get((number, None), 0) + 1
                continue
            if tree_size(tree) > 300:
                continue
            self.assertEqual(slow.count(), (tree_size(tree), False))
            self.assertTrue(slow.is_right(tree))
            self.assertIsNone(judge_too_few(facts, sight, machine, number, tree))
            if count_builders(facts, sight, number) <= 300:
                self.assertIsNone(slow_fewest(facts, sight, machine, number))
            counts[number, sight[3]] = counts.get((number, sight[3]), 0) + 1
        self.assertEqual(len(counts), 15)

    def test_numbers(self):
        machine = machine_of(("on",), SAYING)
        for number in (0, 5, -1, 10 ** 6):
            for call in (
                lambda: fewest(("on",), ALONE, SAYING, number), lambda: too_few(("on",), ALONE, machine, number),
                lambda: judge_too_few(("on",), ALONE, machine, number, ("wrong", (), ())),
            ):
                with self.assertRaises(NotAllowed):
                    call()
        never = ("and", ("point",), ("not", ("point",)))
        nothing = machine_of(("on",), never)
        for number in (1, 2, 3, 4):
            with self.assertRaises(Missing):
                fewest(("on",), ALONE, never, number)
            tree = too_few(("on",), ALONE, nothing, number)
            self.assertIsNone(judge_too_few(("on",), ALONE, nothing, number, tree))
        self.assertEqual(fewest(("on",), ALONE, ("or", ("point",), LONG), 4), (1, (((((),), (0,))),)))

    def test_three_thousand_trees_and_more(self):
        for looked, is_won, number, facts, sight, machine in NEAR_THE_BOUND:
            slow = Slow(facts, sight, machine, number)
            self.assertEqual(slow.count(), (looked, is_won))
            if looked > MAX_TREE:
                with self.assertRaises(TooLarge):
                    too_few(facts, sight, machine, number)
            elif is_won:
                with self.assertRaises(Missing):
                    too_few(facts, sight, machine, number)
            else:
                tree = too_few(facts, sight, machine, number)
                self.assertEqual(tree_size(tree), looked)
                self.assertIsNone(judge_too_few(facts, sight, machine, number, tree))

    def test_just_as_many_trees_as_the_bound(self):
        rng = random.Random(248)
        counts = {True: 0, False: 0}
        while min(counts.values()) < 20:
            facts = THREE_FACTS[:rng.randint(1, 3)]
            sight = random_sight(rng, facts)
            case = (facts, sight, random_machine(rng, facts, rng.randint(1, 4)), rng.randint(1, 3))
            try:
                too_few(*case)
            except TooLarge:
                continue
            except Missing:
                pass
            looked, is_won = Slow(*case).count()
            if not 2 <= looked <= 200:
                continue
            counts[is_won] += 1
            with mock.patch.object(module, "MAX_TREE", looked):
                if is_won:
                    with self.assertRaises(Missing):
                        too_few(*case)
                else:
                    self.assertEqual(tree_size(too_few(*case)), looked)
            with mock.patch.object(module, "MAX_TREE", looked - 1):
                with self.assertRaises(TooLarge):
                    too_few(*case)

    def test_sayings_whose_tree_is_too_large(self):
        # Three facts are seen: rows have eight moves.
        sight = ((), THREE_FACTS, "builder", "often")
        never = ("and", ("point",), ("not", ("point",)))
        text = "some ends (point and on and up and x)"
        with self.assertRaises(TooLarge):
            fewest(THREE_FACTS, sight, read_saying(THREE_FACTS, text), 4)
        with self.assertRaises(Missing):
            fewest(THREE_FACTS, sight, read_saying(THREE_FACTS, text), 1)
        # A number is too large only if it has to be looked at.
        self.assertEqual(fewest(THREE_FACTS, sight, ("or", ("point",), LONG), 4)[0], 1)
        with self.assertRaises(Missing):
            fewest(THREE_FACTS, sight, never, 1)
        with self.assertRaises(TooLarge):
            fewest(THREE_FACTS, sight, never, 4)

    def test_other_errors(self):
        large = read_saying(THREE_FACTS, BEYOND_THE_BOUNDS[2][3])
        sight = (("on",), (), "builder", "always")
        with self.assertRaises(TooLarge):
            fewest(THREE_FACTS, sight, large, 1)
        for number in (0, 5):
            with self.assertRaises(NotAllowed):
                fewest(THREE_FACTS, sight, large, number)
        for wrong in ((("on",), ("on",), "builder", "once"), (("on",), (), "seeker", "once"), (("on",), (), "builder", "never")):
            with self.assertRaises(NotAllowed):
                fewest(THREE_FACTS, wrong, large, 1)
            machine = machine_of(THREE_FACTS, ON)
            for call in (
                lambda: too_few(THREE_FACTS, wrong, machine, 1),
                lambda: judge_too_few(THREE_FACTS, wrong, machine, 1, ("wrong", (), ())),
            ):
                with self.assertRaises(NotAllowed):
                    call()
        for letters in (tuple(range(2)), (("on",), ())):
            machine = (letters, ((0, 0),), ())
            for call in (
                lambda: too_few(("on",), ALONE, machine, 1),
                lambda: judge_too_few(("on",), ALONE, machine, 1, ("wrong", (), ())),
            ):
                with self.assertRaises(NotAllowed):
                    call()


class JudgeTest(unittest.TestCase):
    def judge(self, case, tree):
        right = Slow(*case).is_right(tree)
        if right:
            self.assertIsNone(judge_too_few(*case, tree))
        else:
            with self.assertRaises(BadPaper, msg=(case, tree)):
                judge_too_few(*case, tree)
        return right

    def some_tree(self, rng, most=60):
        while True:
            facts = THREE_FACTS[:rng.randint(1, 3)]
            sight = random_sight(rng, facts)
            machine = random_machine(rng, facts, rng.randint(1, 4))
            case = (facts, sight, machine, rng.randint(1, 3))
            try:
                tree = too_few(*case)
            except (Missing, TooLarge):
                continue
            if 3 <= tree_size(tree) <= most:
                return case, tree

    def spoilt(self, rng, case, tree):
        """The tree with one of its parts spoilt, at any depth."""
        others = choices(case[0], case[1])[2]
        if len(tree) == 3:
            word, stem, cycle = tree
            yield ("Wrong", stem, cycle)
            yield ("choice", stem, cycle)
            yield (word, cycle, stem)
            yield (word, stem[:-1], cycle)
            yield (word, stem, cycle[:-1])
            yield (word, stem + (rng.choice(others),), cycle)
            yield (word, stem, cycle + (rng.choice(others),))
            yield (word, stem + cycle, cycle)
            yield (word, (("y",),) + stem[1:], cycle)
            yield ("move", 0, 0, (tree,))
            yield ("choice", 0, 0, (tree, tree))
            return
        word, room, k, trees = tree
        yield ("wrong", (), ())
        yield ("wrong", room, k, trees)
        yield ("", room, k, trees)
        yield ("move" if word == "choice" else "choice", room, k, trees)
        for wrong in (-1, room + 1, 4):
            yield (word, wrong, k, trees)
        for wrong in (-1, k + 1, 8):
            yield (word, room, wrong, trees)
        yield (word, room, k, ())
        yield (word, room, k, trees[:-1])
        yield (word, room, k, trees + trees[-1:])
        yield (word, room, k, trees[::-1])
        for at, part in enumerate(trees):
            for other in self.spoilt(rng, case, part):
                yield (word, room, k, trees[:at] + (other,) + trees[at + 1:])

    def test_spoilt_trees(self):
        rng = random.Random(245)
        counts = {True: 0, False: 0}
        for _ in range(60):
            case, tree = self.some_tree(rng)
            self.assertTrue(self.judge(case, tree))
            for other in list(self.spoilt(rng, case, tree))[:300]:
                counts[self.judge(case, other)] += 1
        self.assertGreater(counts[False], 2000)
        self.assertGreater(counts[True], 20)

    def test_trees_for_other_numbers(self):
        rng = random.Random(246)
        counts = {}
        for _ in range(120):
            (facts, sight, machine, number), tree = self.some_tree(rng)
            for other in (1, 2, 3, 4):
                key = (other - number, self.judge((facts, sight, machine, other), tree))
                counts[key] = counts.get(key, 0) + 1
        self.assertEqual(counts.get((0, False), 0), 0)
        self.assertGreater(counts[1, False], 5)

    def grown(self, rng, slow, there=None):
        """A tree in which open entries are asked in any order, None if some builder's machine wins."""
        there = there or {}
        pairs, after, needed = slow.graph(there)
        if slow.is_lost(pairs, after) and rng.random() < 0.8:
            return self.leaf(slow, there)
        greatest = max((value for entry, value in there.items() if entry[0] == "move"), default=0)
        many = 1 if slow.sight[2] == "builder" else len(slow.glimpses)
        open_ones = [("choice", room, k) for room in range(greatest + 1) for k in range(many)]
        open_ones += [("move", room, k) for room in range(greatest + 1) for k in range(len(slow.glimpses))]
        open_ones = [entry for entry in open_ones if entry not in there]
        if not open_ones:
            return self.leaf(slow, there)
        entry = rng.choice(open_ones)
        trees = tuple(self.grown(rng, slow, {**there, entry: value}) for value in slow.values(there, entry[0]))
        return entry + (trees,)

    def leaf(self, slow, there):
        """A wrong run of what is there, found by trying rows of a few choices."""
        for length in range(1, 9):
            for row in itertools.product(slow.others, repeat=length):
                for cut in range(length + 1):
                    if slow.is_wrong(there, row[:cut], row[cut:]):
                        return ("wrong", row[:cut], row[cut:])
        return ("wrong", (), ())

    def test_entries_in_another_order(self):
        rng = random.Random(247)
        right = 0
        tried = 0
        while tried < 60:
            facts = THREE_FACTS[:rng.randint(1, 2)]
            sight = random_sight(rng, facts)
            machine = random_machine(rng, facts, rng.randint(1, 2))
            case = (facts, sight, machine, rng.randint(1, 2))
            slow = Slow(*case)
            if len(slow.glimpses) > 2 or count_builders(facts, sight, case[3]) > 300:
                continue
            looked, is_won = slow.count()
            if is_won:
                continue
            tried += 1
            tree = self.grown(rng, slow)
            right += self.judge(case, tree)
        self.assertGreater(right, 30)

    def test_an_entry_that_is_not_needed(self):
        # The machine lets nothing by: but the move has to be known for a wrong run.
        nothing = (ONE, ((0, 0),), ())
        leaf = ("wrong", ((),), ())
        choice = ("choice", 0, 0, (("move", 0, 0, (leaf,)),) * 2)
        self.assertIsNone(judge_too_few(("on",), ALONE, nothing, 1, choice))
        turned = ("move", 0, 0, (("choice", 0, 0, (leaf, leaf)),))
        self.assertIsNone(judge_too_few(("on",), ALONE, nothing, 1, turned))
        for wrong in (leaf, ("choice", 0, 0, (leaf, leaf)), ("move", 0, 0, (leaf,)), ("move", 0, 0, (choice,)), turned[:3] + ((),)):
            with self.assertRaises(BadPaper):
                judge_too_few(("on",), ALONE, nothing, 1, wrong)
        # With two rooms the move has two values.
        for trees, right in (((leaf, leaf), True), ((leaf,), False), ((leaf, leaf, leaf), False)):
            tree = ("choice", 0, 0, (("move", 0, 0, trees),) * 2)
            if right:
                self.assertIsNone(judge_too_few(("on",), ALONE, nothing, 2, tree))
            else:
                with self.assertRaises(BadPaper):
                    judge_too_few(("on",), ALONE, nothing, 2, tree)
        # An entry of the room 1 may be asked for only behind a move to it.
        tree = ("choice", 1, 0, (("choice", 0, 0, (("move", 0, 0, (leaf, leaf)),) * 2),) * 2)
        with self.assertRaises(BadPaper):
            judge_too_few(("on",), ALONE, nothing, 2, tree)
        inner = ("choice", 1, 0, (("choice", 0, 0, (leaf, leaf)),) * 2)
        tree = ("move", 0, 0, (("choice", 0, 0, (leaf, leaf)), inner))
        self.assertIsNone(judge_too_few(("on",), ALONE, nothing, 2, tree))
        with self.assertRaises(BadPaper):
            judge_too_few(("on",), ALONE, nothing, 2, ("move", 0, 0, (inner, inner)))


if __name__ == "__main__":
    unittest.main()
