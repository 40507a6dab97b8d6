"""likeness.py: [13.1] to [13.4]."""

import random
import unittest
from unittest import mock

from spansay import likeness, parting
from spansay.chains import chain_depth, chain_ways, check_chain, keeps_chain
from spansay.classes import class_of, class_runs
from spansay.errors import BadPaper, Missing, TooLarge
from spansay.keeps import all_keep
from spansay.least import are_alike
from spansay.likeness import MAX_APART, apart, apart_at, chain_apart, classes_had, judge_apart
from spansay.scenes import WAYS
from tests import naive

FACTS = ("on", "up")
ALONE = ("on",)
ONCE = (((), ("on",)), (0,), ((0, 1), ()))
MORE = (((), ("on",)), (0,), ((0, 1), (1,)))
EVERY = (((), ("on",)), (0, 1), ((0, 1), (0, 1)))
# More than 400 states of rows of marks from the depth 2 on.
LARGE_WAYS = ("during", "later")


def had(facts, ways, depth, system, most=7):
    """The first tracks of the classes of a system, by its tracks of a few states."""
    found = {}
    for track in naive.tracks_up_to(system, most):
        run = naive.run_of(system, track)
        found.setdefault(class_of(facts, ways, depth, run), track)
    return found


def random_ways(rng):
    return rng.choice([(), ("begins",), ("ends",), ("begun",), ("meets",), ("during",), ("later",), ("begins", "ended")])


def fits(facts, ways, depth):
    try:
        class_runs(facts, ways, depth)
    except TooLarge:
        return False
    return True


def random_case(rng, most=1):
    facts, ways, depth = FACTS[:rng.randint(1, 2)], random_ways(rng), rng.randint(0, most)
    while not fits(facts, ways, depth):
        facts, ways, depth = FACTS[:rng.randint(1, 2)], random_ways(rng), rng.randint(0, most)
    systems = [naive.random_system(rng, facts, rng.randint(1, 3), rng.choice([0.2, 0.5])) for _ in range(2)]
    if rng.random() < 0.4:
        systems[1] = changed(rng, systems[0])
    return facts, ways, depth, systems[0], systems[1]


def changed(rng, system):
    """A system like another one, with a state twice, in another order, or with a move more or less."""
    scenes, firsts, moves = system
    kind = rng.choice(["twice", "order", "move", "same"])
    many = len(scenes)
    if kind == "twice":
        # The last state once more: moves lead to both.
        rows = tuple(row + ((many,) if many - 1 in row else ()) for row in moves)
        return (scenes + scenes[-1:], firsts + ((many,) if many - 1 in firsts else ()), rows + rows[-1:])
    if kind == "order":
        order = list(range(many))
        rng.shuffle(order)
        place = {state: at for at, state in enumerate(order)}
        return (
            tuple(scenes[state] for state in order), tuple(sorted(place[state] for state in firsts)),
            tuple(tuple(sorted(place[after] for after in moves[state])) for state in order),
        )
    if kind == "move":
        state, after = rng.randrange(many), rng.randrange(many)
        row = tuple(sorted(set(moves[state]) ^ {after}))
        return (scenes, firsts, moves[:state] + (row,) + moves[state + 1:])
    return system


class ClassesTest(unittest.TestCase):
    def test_examples(self):
        found = classes_had(ALONE, ("ends",), 0, ONCE), classes_had(ALONE, ("ends",), 0, MORE)
        self.assertEqual(found, ((0, 2), (0, 2)))
        self.assertEqual(apart(ALONE, ("ends",), 1, ONCE, MORE), (1, 7, (0, 1, 1)))
        found = apart_at(ALONE, ("ends",), ONCE, MORE, 3), apart_at(ALONE, ("begins",), ONCE, MORE, 1)
        self.assertEqual(found, (1, None))
        keeper, chain, track = chain_apart(ALONE, ("ends",), 1, ONCE, MORE)
        found = keeper, track, judge_apart(ALONE, ("ends",), 1, ONCE, MORE, chain, track)
        self.assertEqual(found, (0, (0, 1, 1), None))

    def test_constant(self):
        self.assertEqual(MAX_APART, 2000)

    def test_classes_against_tracks(self):
        rng = random.Random(211)
        sizes = {}
        for _ in range(60):
            facts, ways, depth, system, _ = random_case(rng)
            expected = tuple(sorted(had(facts, ways, depth, system)))
            self.assertEqual(classes_had(facts, ways, depth, system), expected)
            sizes[depth, len(expected) > 2] = sizes.get((depth, len(expected) > 2), 0) + 1
        self.assertEqual(len(sizes), 4)

    def test_all_runs_have_all_classes(self):
        for ways in ((), ("begins",), ("ends",), ("begins", "ends")):
            for depth in (0, 1, 2):
                many = len(class_runs(ALONE, ways, depth))
                self.assertEqual(classes_had(ALONE, ways, depth, EVERY), tuple(range(many)))

    def test_a_system_of_one_run(self):
        for depth in (0, 1, 2, 6):
            self.assertEqual(classes_had(ALONE, ("begins",), depth, (((),), (0,), ((),))), (0,))


class ApartTest(unittest.TestCase):
    def test_against_tracks(self):
        rng = random.Random(212)
        counts = {}
        for _ in range(90):
            facts, ways, depth, first, second = random_case(rng)
            ones, others = had(facts, ways, depth, first), had(facts, ways, depth, second)
            own = sorted(set(ones) ^ set(others))
            expected = None
            if own:
                which = 0 if own[0] in ones else 1
                expected = (which, own[0], (ones, others)[which][own[0]])
            self.assertEqual(apart(facts, ways, depth, first, second), expected)
            # The systems exchanged.
            turned = None if expected is None else (1 - expected[0],) + expected[1:]
            self.assertEqual(apart(facts, ways, depth, second, first), turned)
            counts[depth, expected and expected[0]] = counts.get((depth, expected and expected[0]), 0) + 1
        for key in ((0, None), (0, 0), (0, 1), (1, None), (1, 0), (1, 1)):
            self.assertGreater(counts[key], 3)

    def test_apart_at_each_greater_depth(self):
        rng = random.Random(213)
        found = {}
        for _ in range(80):
            facts, _, _, first, second = random_case(rng)
            ways = rng.choice([("begins",), ("ends",)])
            facts = facts if len(facts) == 1 else facts[:1]
            first, second = [
                (tuple(tuple(f for f in scene if f in facts) for scene in system[0]),) + system[1:] for system in (first, second)
            ]
            depths = [apart(facts, ways, depth, first, second) is not None for depth in range(5)]
            self.assertEqual(depths, sorted(depths))
            for most in range(5):
                expected = next((depth for depth in range(most + 1) if depths[depth]), None)
                self.assertEqual(apart_at(facts, ways, first, second, most), expected)
            found[expected] = found.get(expected, 0) + 1
        self.assertGreater(len(found), 2)

    def test_alike_systems(self):
        twice = (((), ("on",), ("on",)), (0,), ((0, 1, 2), (), ()))
        order = ((("on",), ()), (1,), ((), (0, 1)))
        for other in (twice, order, ONCE):
            for depth in (0, 1, 2, 3):
                self.assertIsNone(apart(ALONE, ("begins", "ends"), min(depth, 2), ONCE, other))
                self.assertIsNone(apart(ALONE, (), depth, ONCE, other))
            self.assertIsNone(apart_at(ALONE, ("ends",), ONCE, other, 6))

    def test_the_theorem(self):
        # Alike: all runs of the one keep a saying if and only if all runs of the other one do.
        rng = random.Random(214)
        different = 0
        for _ in range(60):
            facts, ways, depth, first, second = random_case(rng)
            alike = apart(facts, ways, depth, first, second) is None
            for _ in range(15):
                saying = naive.random_saying(rng, facts, rng.randint(1, 6), ways or ("ends",))
                if depth_of(saying) > depth or not ways and depth_of(saying):
                    continue
                words = [all_keep(facts, system, saying)[0] for system in (first, second)]
                if alike:
                    self.assertEqual(words[0], words[1])
                different += words[0] != words[1]
        self.assertGreater(different, 10)

    def test_no_way(self):
        # Without ways each depth is the depth 0.
        for depth in (0, 1, 6):
            self.assertIsNone(apart(ALONE, (), depth, ONCE, MORE))
            self.assertEqual(apart(ALONE, (), depth, ONCE, EVERY), (1, 1, (1,)))


def depth_of(saying):
    inner = max([depth_of(part) for part in saying[1:] if isinstance(part, tuple)], default=0)
    return inner + (saying[0] in ("some", "all"))


def slow_chain(facts, ways, depth, first, second):
    """[13.3], line by line: the keeper, the chain and the track."""
    ones, others = had(facts, ways, depth, first), had(facts, ways, depth, second)
    own = sorted(set(ones) ^ set(others))
    which = 0 if own[0] in ones else 1
    runs = class_runs(facts, ways, depth)
    r = runs[own[0]]
    lines = []

    def put(line):
        if line not in lines:
            lines.append(line)
        return lines.index(line)

    def put_saying(saying):
        inner = tuple(put_saying(part) for part in saying[1:] if isinstance(part, tuple))
        return put(tuple(part for part in saying if not isinstance(part, tuple)) + inner)

    last = None
    for number in sorted((others, ones)[which]):
        told = put_saying(naive.parting_saying(r, runs[number], ways))
        last = told if last is None else put(("and", last, told))
    return 1 - which, tuple(lines) + (("not", last),), (ones, others)[which][own[0]]


class ChainTest(unittest.TestCase):
    def test_line_by_line(self):
        rng = random.Random(215)
        seen = {}
        tried = 0
        while tried < 60:
            case = random_case(rng)
            if apart(*case) is None:
                with self.assertRaises(Missing):
                    chain_apart(*case)
                continue
            tried += 1
            expected = slow_chain(*case)
            self.assertEqual(chain_apart(*case), expected)
            self.check_shown(case, expected)
            turned = case[:3] + (case[4], case[3])
            self.assertEqual(chain_apart(*turned), (1 - expected[0],) + expected[1:])
            key = case[2], expected[0], len(expected[1]) > 6
            seen[key] = seen.get(key, 0) + 1
        self.assertGreater(len(seen), 5)

    def check_shown(self, case, told):
        facts, ways, depth, first, second = case
        keeper, chain, track = told
        systems = (first, second)
        self.assertIsNone(check_chain(facts, chain))
        self.assertLessEqual(chain_depth(chain), depth)
        self.assertLessEqual(set(chain_ways(chain)), set(ways))
        for other in naive.tracks_up_to(systems[keeper], 6):
            self.assertTrue(keeps_chain(naive.run_of(systems[keeper], other), chain))
        self.assertFalse(keeps_chain(naive.run_of(systems[1 - keeper], track), chain))
        self.assertIsNone(judge_apart(facts, ways, depth, systems[keeper], systems[1 - keeper], chain, track))

    def test_greater_depths(self):
        rng = random.Random(216)
        tried = 0
        while tried < 25:
            first, second = [naive.random_system(rng, ALONE, rng.randint(1, 4), 0.5) for _ in range(2)]
            case = (ALONE, rng.choice([("begins",), ("ends",)]), rng.randint(2, 5), first, second)
            if apart(*case) is None:
                continue
            tried += 1
            self.check_shown(case, chain_apart(*case))

    def test_the_not_is_always_made(self):
        # The parting chain of one class alone: here its last line is a `not` already.
        first = (((),), (0,), ((),))
        second = ((("on",),), (0,), ((),))
        keeper, chain, track = chain_apart(ALONE, (), 0, first, second)
        self.assertEqual((keeper, chain, track), (1, (("fact", "on"), ("not", 0), ("not", 1)), (0,)))
        keeper, chain, track = chain_apart(ALONE, (), 0, second, first)
        self.assertEqual((keeper, chain, track), (0, (("fact", "on"), ("not", 0), ("not", 1)), (0,)))

    def test_lines_are_made_once(self):
        rng = random.Random(217)
        for _ in range(150):
            case = random_case(rng)
            if apart(*case) is not None:
                _, chain, _ = chain_apart(*case)
                self.assertEqual(chain[-1][0], "not")
                self.assertEqual(len(set(chain[:-1])), len(chain) - 1)

    def test_too_large(self):
        # A machine of types that is too large.
        for call in (
            lambda: classes_had(FACTS, LARGE_WAYS, 3, (((),), (0,), ((),))), lambda: apart(ALONE, LARGE_WAYS, 3, ONCE, MORE),
            lambda: apart_at(ALONE, LARGE_WAYS, ONCE, ONCE, 3), lambda: chain_apart(ALONE, LARGE_WAYS, 3, ONCE, MORE),
            lambda: judge_apart(ALONE, LARGE_WAYS, 3, ONCE, MORE, (("point",),), ()),
        ):
            with self.assertRaises(TooLarge):
                call()
        # No greater depth is needed than that at which they are apart.
        self.assertEqual(apart_at(ALONE, LARGE_WAYS, ONCE, EVERY, 6), 0)
        self.assertEqual(apart_at(ALONE, ("ends",) + LARGE_WAYS[1:], ONCE, EVERY, 6), 0)

    def test_bounds_of_the_chain(self):
        # No chain of so many lines, and no first run of so many places, was found: the bounds are lowered here.
        case = (ALONE, ("ends",), 1, ONCE, MORE)
        chain = chain_apart(*case)[1]
        with mock.patch.object(likeness, "MAX_APART", len(chain)):
            self.assertEqual(chain_apart(*case)[1], chain)
        for many in (len(chain) - 1, 3, 1):
            with mock.patch.object(likeness, "MAX_APART", many):
                with self.assertRaises(TooLarge):
                    chain_apart(*case)
        runs = class_runs(ALONE, ("ends",), 1)
        needed = [runs[7]] + [runs[number] for number in classes_had(ALONE, ("ends",), 1, ONCE)]
        longest = max(len(run) for run in needed)
        with mock.patch.object(likeness, "MAX_RUN", longest):
            self.assertEqual(chain_apart(*case)[1], chain)
        with mock.patch.object(likeness, "MAX_RUN", longest - 1):
            with self.assertRaises(TooLarge):
                chain_apart(*case)
        with mock.patch.object(parting, "MAX_PARTING", 1):
            with self.assertRaises(TooLarge):
                chain_apart(*case)

    def test_errors_in_order(self):
        with mock.patch.object(likeness, "MAX_RUN", 0):
            with self.assertRaises(Missing):
                chain_apart(ALONE, ("ends",), 1, ONCE, ONCE)


class JudgeTest(unittest.TestCase):
    def judge(self, facts, ways, depth, keeper, other, chain, track):
        """Compare with the words of [13.4], by all runs of a few places."""
        right = chain_depth(chain) <= depth and set(chain_ways(chain)) <= set(ways)
        right = right and track in naive.tracks(other, len(track)) if track else False
        right = right and not keeps_chain(naive.run_of(other, track), chain)
        right = right and all(
            keeps_chain(naive.run_of(keeper, told), chain) for told in naive.tracks_up_to(keeper, 6)
        )
        if right:
            self.assertIsNone(judge_apart(facts, ways, depth, keeper, other, chain, track))
        else:
            with self.assertRaises(BadPaper, msg=(facts, ways, depth, keeper, other, chain, track)):
                judge_apart(facts, ways, depth, keeper, other, chain, track)
        return right

    def test_spoilt(self):
        rng = random.Random(218)
        counts = {}
        tried = 0
        while tried < 40:
            case = random_case(rng)
            if apart(*case) is None:
                continue
            tried += 1
            facts, ways, depth, *systems = case
            which, chain, track = chain_apart(*case)
            keeper, other = systems[which], systems[1 - which]
            self.assertTrue(self.judge(facts, ways, depth, keeper, other, chain, track))
            self.assertFalse(self.judge(facts, ways, depth, other, keeper, chain, track))
            changed = [(facts, ways, d, keeper, other, chain, track) for d in (0, depth + 1)]
            changed += [(facts, told, depth, keeper, other, chain, track) for told in ((), ("ends",), ("begins", "ended"))]
            for told in ((), track[:-1], track + (0,), track[::-1], (-1,), (len(other[0]),), (0,), (0, 0)):
                changed.append((facts, ways, depth, keeper, other, chain, told))
            for end in range(1, len(chain)):
                changed.append((facts, ways, depth, keeper, other, chain[:end], track))
            changed.append((facts, ways, depth, keeper, other, chain + (("not", len(chain) - 1),), track))
            changed.append((facts, ways, depth, keeper, other, chain + (("and", len(chain) - 1, len(chain) - 1),), track))
            changed.append((facts, ways, depth, keeper, keeper, chain, track))
            for arguments in changed:
                if fits(*arguments[:3]):
                    right = self.judge(*arguments)
                    counts[right] = counts.get(right, 0) + 1
        self.assertGreater(min(counts.values()), 40)

    def test_other_sayings(self):
        # Whatever chain tells them apart is right, with as many lines as it likes; lines that are not needed do not count.
        chain = (("fact", "on"), ("some", "met", 0), ("some", "ends", 0), ("not", 0), ("or", 3, 3))
        first, second = (((),), (0,), ((0,),)), ((("on",),), (0,), ((0,),))
        self.assertIsNone(judge_apart(ALONE, (), 0, first, second, chain, (0, 0, 0)))
        self.assertIsNone(judge_apart(ALONE, (), 0, second, first, chain[:1], (0,)))
        with self.assertRaises(BadPaper):
            judge_apart(ALONE, (), 0, second, first, chain, (0,))

    def test_the_keeper_keeps_in_all_runs(self):
        # Only a run of three places breaks it: no first run of a class of the depth 0 would tell that.
        chain = (("point",), ("not", 0), ("some", "begins", 1), ("not", 2))
        short = (((), ()), (0,), ((1,), ()))
        long = (((), (), ()), (0,), ((1,), (2,), ()))
        self.assertIsNone(judge_apart(ALONE, ("begins",), 1, short, long, chain, (0, 1, 2)))
        with self.assertRaises(BadPaper):
            judge_apart(ALONE, ("begins",), 1, long, long, chain, (0, 1, 2))
        with self.assertRaises(BadPaper):
            judge_apart(ALONE, ("begins",), 0, short, long, chain, (0, 1, 2))
        # Other ways, with which all first runs of the keeper keep it as well.
        self.assertIsNone(judge_apart(ALONE, ("begins", "ends"), 1, short, long, chain, (0, 1, 2)))
        for ways in (("ends",), (), ("begun", "ends")):
            with self.assertRaises(BadPaper):
                judge_apart(ALONE, ways, 1, short, long, chain, (0, 1, 2))


class WaysTest(unittest.TestCase):
    def test_each_way(self):
        for way in WAYS:
            found = classes_had(ALONE, (way,), 1, MORE)
            self.assertEqual(found, tuple(sorted(had(ALONE, (way,), 1, MORE))))
        self.assertTrue(are_alike(ALONE, ("point",), ("point",)))


if __name__ == "__main__":
    unittest.main()
