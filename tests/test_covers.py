"""covers.py: [11.5], [11.6], [11.7]."""

import itertools
import random
import unittest

from spansay.covers import (
    MAX_TAKEN, bounded, components_of, first_untaken, is_behind, judge_bounded, judge_unbounded, takes,
)
from spansay.errors import BadPaper, Missing, NotAllowed, TooLarge
from spansay.least import machine_of
from spansay.near import distance
from tests import naive
from tests.test_near import has_runs, random_machine

FACTS = ("on", "up", "x")
ONE = ("on",)
ON = ("fact", "on")
EVERY = machine_of(ONE, ("or", ("point",), ("not", ("point",))))
LAST = machine_of(ONE, ("or", ("and", ("point",), ON), ("some", "ends", ON)))
ALIKE = machine_of(ONE, ON)
# Found by search: the number of pairs, and the moves of two machines over the scenes of one fact; all rooms but the
# last one let by, and are a component.
NEAR_THE_BOUND = (
    (2000, ((1, 1), (2, 1), (3, 2), (0, 0), (4, 4)),
     ((1, 8), (2, 6), (3, 10), (4, 9), (5, 7), (6, 12), (7, 4), (8, 12), (9, 6), (10, 2), (11, 12), (0, 6), (12, 12))),
    (2000, ((1, 4), (2, 1), (3, 3), (0, 4), (4, 4)),
     ((1, 1), (2, 3), (3, 5), (4, 9), (5, 3), (6, 12), (7, 6), (8, 6), (9, 2), (10, 10), (11, 7), (0, 9), (12, 12))),
    (2000, ((1, 1), (2, 1), (3, 1), (4, 0), (0, 3), (5, 5)),
     ((1, 4), (2, 7), (3, 1), (4, 0), (5, 8), (6, 3), (7, 4), (8, 2), (0, 4), (9, 9))),
    (2001, ((1, 1), (2, 0), (0, 3), (3, 3)),
     ((1, 2), (2, 0), (3, 9), (4, 6), (5, 5), (6, 2), (7, 9), (8, 10), (9, 2), (10, 9), (11, 5), (0, 8), (12, 12))),
    (2001, ((1, 1), (2, 1), (0, 3), (3, 3)),
     ((1, 7), (2, 8), (3, 8), (4, 10), (5, 5), (6, 0), (7, 4), (8, 7), (9, 8), (10, 9), (11, 2), (0, 8), (12, 12))),
    (2002, ((0, 0), (1, 1)),
     ((1, 5), (2, 6), (3, 3), (4, 1), (12, 10), (6, 6), (7, 2), (8, 7), (9, 8), (10, 5), (11, 0), (0, 9), (12, 12))),
    (2019, ((1, 2), (2, 0), (0, 0), (3, 3)),
     ((1, 5), (2, 9), (3, 4), (4, 8), (5, 11), (6, 11), (7, 2), (8, 9), (9, 11), (10, 3), (0, 6), (11, 11))),
)


def ahead_of(machine, room):
    """The rooms to which rows lead from a room, also the empty one."""
    found = {room}
    while True:
        wider = found | {after for at in found for after in machine[1][at]}
        if wider == found:
            return found
        found = wider


def useful(machine):
    return {room for room in ahead_of(machine, 0) if ahead_of(machine, room) & set(machine[2])}


def leads_around(machine, room, other):
    """Whether a row that is not empty leads from a room to another one through useful rooms alone."""
    inner = useful(machine)
    found = {after for after in machine[1][room] if after in inner}
    for _ in machine[1]:
        found |= {after for at in found for after in machine[1][at] if after in inner}
    return other in found


def components(machine):
    """[11.5]: greatest tuples, in the order of their least rooms."""
    rooms = sorted(useful(machine))
    around = {(a, b): leads_around(machine, a, b) for a in rooms for b in rooms}
    found = []
    for room in rooms:
        if around[room, room]:
            together = tuple(b for b in rooms if around[room, b] and around[b, room])
            if together not in found:
                found.append(together)
    return found


def slow_takes_from(machine, rooms, start, row):
    at = start
    for scene in row:
        at = machine[1][at][machine[0].index(scene)] if scene in machine[0] else None
        if at not in rooms:
            return False
    return True


def slow_takes(machine, rooms, row):
    return any(slow_takes_from(machine, rooms, start, row) for start in rooms)


def slow_behind(machine, rooms, others):
    return any(other in ahead_of(machine, room) for room in rooms for other in others)


def slow_untaken(first, rooms, second, others):
    """The first row that some rooms take and others do not, by a search over rows with all rooms behind them."""
    def step(machine, inner, sources, at):
        return frozenset(machine[1][room][at] for room in sources) & frozenset(inner)

    start = (frozenset(rooms), frozenset(others))
    seen = {start}
    waiting = [((), start)]
    for row, (ones, twos) in waiting:
        if not twos:
            return row
        for at, scene in enumerate(first[0]):
            after = (step(first, rooms, ones, at), step(second, others, twos, at))
            if after[0] and after not in seen:
                seen.add(after)
                waiting.append((row + (scene,), after))
    return None


def count_pairs(first, rooms, second, others):
    """The number of the pairs of MAX_TAKEN, up to some more than that."""
    found = {(room, tuple(others)) for room in rooms}
    waiting = list(found)
    while waiting and len(found) < 9000:
        room, inner = waiting.pop()
        for at in range(len(first[0])):
            after = first[1][room][at]
            if after in rooms:
                pair = (after, tuple(sorted({second[1][other][at] for other in inner} & set(others))))
                if pair not in found:
                    found.add(pair)
                    waiting.append(pair)
    return len(found)


class Slow:
    """What components cover and stand behind, for two machines."""

    def __init__(self, first, second):
        self.first, self.second = first, second
        self.ones, self.others = components(first), components(second)
        self.covers = [
            [slow_untaken(first, rooms, second, others) is None for others in self.others] for rooms in self.ones
        ]
        self.one_behind = self.behind(first, self.ones)
        self.other_behind = self.behind(second, self.others)

    def behind(self, machine, found):
        return {
            (k, j) for k, rooms in enumerate(found) for j, others in enumerate(found)
            if k != j and slow_behind(machine, rooms, others)
        }

    def follows(self, d, e):
        return d == e or (d, e) in self.other_behind

    def chains(self):
        chains = [(k,) for k in range(len(self.ones))]
        for chain in chains:
            chains.extend(chain + (j,) for j in range(len(self.ones)) if (chain[-1], j) in self.one_behind)
        return chains

    def stands_for(self, chain, told):
        """Whether some row of components, each behind the one ahead or the same, is told of place by place."""
        for row in itertools.product(range(len(self.others)), repeat=len(chain)):
            if all(told(at, d) for at, d in enumerate(row)) and all(self.follows(d, e) for d, e in zip(row, row[1:])):
                return True
        return False

    def is_bounded(self):
        return all(self.stands_for(chain, lambda at, d: self.covers[chain[at]][d]) for chain in self.chains())

    def right_bounded(self, paper):
        """[11.7], word by word."""
        for k, numbers in paper:
            if not 0 <= k < len(self.ones) or not numbers or list(numbers) != sorted(set(numbers)):
                return False
            if not all(0 <= d < len(self.others) and self.covers[k][d] for d in numbers):
                return False
        if {k for k, _ in paper} != set(range(len(self.ones))):
            return False
        for k, numbers in paper:
            for j in range(len(self.ones)):
                if (k, j) in self.one_behind and not any(
                    other == j and all(any(self.follows(d, e) for d in numbers) for e in more) for other, more in paper
                ):
                    return False
        return True

    def right_unbounded(self, paper):
        chain = [k for k, _ in paper]
        if not all(0 <= k < len(self.ones) for k in chain):
            return False
        if not all(pair in self.one_behind for pair in zip(chain, chain[1:])):
            return False
        if not all(slow_takes(self.first, self.ones[k], row) for k, row in paper):
            return False
        return not self.stands_for(chain, lambda at, d: slow_takes(self.second, self.others[d], paper[at][1]))


def random_pair(rng, rooms=6):
    """Two random machines over the same scenes, with several components and some rooms that are of no use."""
    facts = FACTS[:rng.choice([1, 1, 2])]
    return facts, layered(rng, facts, rng.randint(1, rooms)), layered(rng, facts, rng.randint(1, rooms))


def layered(rng, facts, many):
    """A random machine whose moves lead mostly to rooms not far behind."""
    letters = tuple(naive.scenes(facts))
    rows = []
    for room in range(many):
        top = min(many - 1, room + 2)
        rows.append(tuple(rng.randint(max(0, room - rng.choice([0, 0, 1])), top) for _ in letters))
    return (letters, tuple(rows), tuple(room for room in range(many) if rng.random() < 0.5))


def sparse(rng, many):
    """A random machine with a component of many rooms, and one that nothing leads out of."""
    def row(after):
        return (after, rng.randrange(many)) if rng.random() < 0.7 else (after, many)

    rows = tuple(row((room + 1) % many) for room in range(many))
    return (((), ("on",)), rows + ((many, many),), tuple(range(many)))


def in_order(rng, facts, many):
    """A random machine of so many components, one behind another: loops of one room, or ways around through two or three."""
    letters = tuple(naive.scenes(facts))
    sizes = [rng.choice([1, 1, 2, 3]) for _ in range(many)]
    starts = [sum(sizes[:k]) for k in range(many + 1)]
    dead = starts[-1]
    rows = []
    for k, size in enumerate(sizes):
        for room in range(starts[k], starts[k + 1]):
            around = starts[k] + (room - starts[k] + 1) % size
            row = [rng.choice([dead, starts[rng.randint(min(k + 1, many - 1), many - 1)] if k + 1 < many else dead]) for _ in letters]
            for at in rng.sample(range(len(letters)), rng.randint(1, max(1, len(letters) // 2))):
                row[at] = around
            rows.append(tuple(row))
    rows.append((dead,) * len(letters))
    return (letters, tuple(rows), tuple(range(dead)))


class ComponentsTest(unittest.TestCase):
    def test_examples(self):
        self.assertEqual(components_of(ONE, EVERY), [(1,)])
        self.assertEqual((bounded(ONE, EVERY, LAST)[0], bounded(ONE, EVERY, ALIKE)[0]), ("bounded", "not"))

    def test_components(self):
        rng = random.Random(181)
        counts = {}
        for _ in range(600):
            facts, machine, other = random_pair(rng, 8)
            for told in (machine, other, random_machine(rng, facts, rng.randint(1, 7))):
                found = components_of(facts, told)
                self.assertEqual(found, components(told))
                counts[len(found)] = counts.get(len(found), 0) + 1
        for many in (0, 1, 2, 3):
            self.assertGreater(counts[many], 20)

    def test_a_returned_list_may_be_changed(self):
        components_of(ONE, EVERY).clear()
        self.assertEqual(components_of(ONE, EVERY), [(1,)])

    def test_rooms_of_no_use(self):
        letters = ((), ("on",))
        # No row leads to the room 2, and no row from the room 3 is let by; both lead to themselves.
        machine = (letters, ((1, 3), (1, 1), (2, 2), (3, 3)), (1,))
        self.assertEqual(components_of(ONE, machine), [(1,)])
        # The room 0 leads to itself only through a room of no use.
        machine = (letters, ((1, 2), (1, 1), (2, 0)), (1,))
        self.assertEqual(components_of(ONE, machine), components(machine))

    def test_behind(self):
        rng = random.Random(182)
        counts = {True: 0, False: 0}
        for _ in range(200):
            facts, machine, _ = random_pair(rng, 8)
            found = components(machine)
            for k, j in itertools.permutations(range(len(found)), 2):
                expected = slow_behind(machine, found[k], found[j])
                self.assertIs(is_behind(facts, machine, k, j), expected)
                counts[expected] += 1
        self.assertGreater(min(counts.values()), 30)

    def test_takes(self):
        rng = random.Random(183)
        counts = {True: 0, False: 0}
        for _ in range(200):
            facts, machine, _ = random_pair(rng, 7)
            for k, rooms in enumerate(components(machine)):
                self.assertIs(takes(facts, machine, k, ()), True)
                for _ in range(8):
                    row = tuple(rng.choice(machine[0]) for _ in range(rng.randint(1, 5)))
                    expected = slow_takes(machine, rooms, row)
                    self.assertIs(takes(facts, machine, k, row), expected)
                    counts[expected] += 1
        self.assertGreater(min(counts.values()), 100)

    def test_no_such_component(self):
        nothing = (((), ("on",)), ((0, 0),), ())
        for machine in (EVERY, ALIKE, nothing):
            many = len(components(machine))
            for k in (-1, many, many + 5):
                for call in (
                    lambda: takes(ONE, machine, k, ()), lambda: is_behind(ONE, machine, k, 0),
                    lambda: is_behind(ONE, machine, 0, k), lambda: first_untaken(ONE, machine, k, EVERY, 0),
                    lambda: first_untaken(ONE, EVERY, 0, machine, k),
                ):
                    with self.assertRaises(Missing):
                        call()

    def test_letters_that_are_not_the_scenes(self):
        for letters in ((("on",), ()), ((), ("on",), ("up",)), (0, 1), ((), ("up",))):
            wrong = (letters, ((0,) * len(letters),), ())
            for call in (
                lambda: components_of(ONE, wrong), lambda: takes(ONE, wrong, 9, ()), lambda: is_behind(ONE, wrong, 9, 0),
                lambda: first_untaken(ONE, wrong, 9, EVERY, 9), lambda: first_untaken(ONE, EVERY, 9, wrong, 9),
                lambda: bounded(ONE, wrong, EVERY), lambda: bounded(ONE, (EVERY[0], ((0, 0),), ()), wrong),
                lambda: judge_bounded(ONE, wrong, EVERY, ()), lambda: judge_bounded(ONE, EVERY, wrong, ()),
                lambda: judge_unbounded(ONE, wrong, EVERY, ()), lambda: judge_unbounded(ONE, EVERY, wrong, ()),
            ):
                with self.assertRaises(NotAllowed):
                    call()


class UntakenTest(unittest.TestCase):
    def test_first_rows(self):
        rng = random.Random(184)
        lengths = {}
        for _ in range(500):
            facts, first, second = random_pair(rng, 7)
            for k, rooms in enumerate(components(first)):
                for j, others in enumerate(components(second)):
                    expected = slow_untaken(first, rooms, second, others)
                    self.assertEqual(first_untaken(facts, first, k, second, j), expected)
                    length = None if expected is None else len(expected)
                    lengths[length] = lengths.get(length, 0) + 1
        self.assertGreater(lengths[None], 50)
        for length in (1, 2, 3):
            self.assertGreater(lengths[length], 10)

    def test_long_rows(self):
        rng = random.Random(185)
        lengths = {}
        for _ in range(300):
            first, second = sparse(rng, rng.randint(1, 5)), sparse(rng, rng.randint(2, 7))
            for k, rooms in enumerate(components(first)):
                for j, others in enumerate(components(second)):
                    expected = slow_untaken(first, rooms, second, others)
                    self.assertEqual(first_untaken(ONE, first, k, second, j), expected)
                    length = None if expected is None else len(expected)
                    lengths[length] = lengths.get(length, 0) + 1
        self.assertGreater(sum(many for length, many in lengths.items() if length is not None and length > 4), 20)

    def test_two_thousand_pairs_and_more(self):
        letters = ((), ("on",))
        for many, moves, more in NEAR_THE_BOUND:
            first, second = [(letters, rows, tuple(range(len(rows) - 1))) for rows in (moves, more)]
            rooms, others = components(first)[0], components(second)[0]
            self.assertEqual(count_pairs(first, rooms, second, others), many)
            calls = (
                lambda: first_untaken(ONE, first, 0, second, 0), lambda: bounded(ONE, first, second),
                lambda: judge_bounded(ONE, first, second, ((0, (0,)),)),
            )
            if many > MAX_TAKEN:
                for call in calls:
                    with self.assertRaises(TooLarge):
                        call()
                # It is judged without looking at what is covered.
                with self.assertRaises(BadPaper):
                    judge_unbounded(ONE, first, second, ())
            else:
                expected = slow_untaken(first, rooms, second, others)
                self.assertEqual(calls[0](), expected)
        self.assertEqual({many > MAX_TAKEN for many, _, _ in NEAR_THE_BOUND}, {True, False})


class BoundedTest(unittest.TestCase):
    def test_against_chains(self):
        rng = random.Random(186)
        counts = {}
        for _ in range(700):
            facts, first, second = random_pair(rng, 7)
            if not has_runs(first) or not has_runs(second):
                for call in (
                    lambda: bounded(facts, first, second), lambda: judge_bounded(facts, first, second, ()),
                    lambda: judge_unbounded(facts, first, second, ()),
                ):
                    with self.assertRaises(Missing):
                        call()
                continue
            slow = Slow(first, second)
            word, paper = bounded(facts, first, second)
            self.assertEqual(word == "bounded", slow.is_bounded())
            if word == "bounded":
                self.assertTrue(slow.right_bounded(paper))
                self.assertIsNone(judge_bounded(facts, first, second, paper))
            else:
                self.assertTrue(slow.right_unbounded(paper))
                self.assertIsNone(judge_unbounded(facts, first, second, paper))
            key = word, max((len(chain) for chain in slow.chains()), default=0)
            counts[key] = counts.get(key, 0) + 1
        for word in ("bounded", "not"):
            for length in (1, 2, 3):
                self.assertGreater(counts[word, length], 3, counts)

    def test_components_in_order(self):
        rng = random.Random(190)
        lengths = {}
        rows = {}
        for _ in range(900):
            facts = FACTS[:rng.randint(1, 2)]
            first, second = in_order(rng, facts, rng.randint(1, 3)), in_order(rng, facts, rng.randint(1, 4))
            slow = Slow(first, second)
            word, paper = bounded(facts, first, second)
            self.assertEqual(word == "bounded", slow.is_bounded())
            self.assertTrue(self.judge(facts, slow, paper, word == "bounded"))
            if len(paper) > 1:
                self.judge(facts, slow, paper[::-1], word == "bounded")
            if word == "not":
                lengths[len(paper)] = lengths.get(len(paper), 0) + 1
                rows[max(len(row) for _, row in paper)] = True
        self.assertGreater(min(lengths[1], lengths[2]), 5)
        self.assertGreater(max(rows), 5)

    def test_chains_whose_components_are_all_covered(self):
        # First off for a while, then on; the other machine has it the other way round.
        off_on = (((), ("on",)), ((0, 1), (2, 1), (2, 2)), (0, 1))
        on_off = (((), ("on",)), ((1, 0), (1, 2), (2, 2)), (0, 1))
        slow = Slow(off_on, on_off)
        self.assertEqual([any(row) for row in slow.covers], [True, True])
        word, paper = bounded(ONE, off_on, on_off)
        self.assertEqual((word, [k for k, _ in paper]), ("not", [0, 1]))
        self.assertIsNone(judge_unbounded(ONE, off_on, on_off, paper))
        for wrong in (paper[::-1], paper[:1], paper[1:], paper + paper[1:], paper[:1] + paper):
            with self.assertRaises(BadPaper):
                judge_unbounded(ONE, off_on, on_off, wrong)
        self.assertEqual(bounded(ONE, off_on, off_on)[0], "bounded")

    def test_a_row_that_is_put_together(self):
        # A way around through three letters; each component of the other machine lacks one of the steps between them.
        letters = tuple(naive.scenes(FACTS))
        dead = (3,) * 8
        around = ((0, 1) + (3,) * 6, (3, 3, 2) + (3,) * 5, (3, 3, 3, 3, 0) + (3,) * 3, dead)
        first = (letters, around, (0, 1, 2))
        parts = []
        for k, lacking in enumerate((4, 2, 1)):
            row = [k + 1] * 8
            for at in (0, 1, 2, 4):
                if at != lacking:
                    row[at] = k
            parts.append(tuple(row))
        second = (letters, tuple(parts) + (dead,), (0, 1, 2))
        slow = Slow(first, second)
        self.assertEqual(len(slow.others), 3)
        word, paper = bounded(FACTS, first, second)
        self.assertEqual(word, "not")
        self.assertTrue(slow.right_unbounded(paper))
        self.assertIsNone(judge_unbounded(FACTS, first, second, paper))
        self.assertGreater(len(paper[0][1]), 2)

    def judge(self, facts, slow, paper, is_bounded):
        """Compare with the words of the document."""
        right = slow.right_bounded(paper) if is_bounded else slow.right_unbounded(paper)
        call = judge_bounded if is_bounded else judge_unbounded
        if right:
            self.assertIsNone(call(facts, slow.first, slow.second, paper))
        else:
            with self.assertRaises(BadPaper, msg=(slow.first, slow.second, paper)):
                call(facts, slow.first, slow.second, paper)
        return right

    def test_spoilt_papers(self):
        rng = random.Random(187)
        counts = {}
        tried = 0
        while tried < 150:
            facts, first, second = random_pair(rng, 6)
            if not has_runs(first) or not has_runs(second):
                continue
            tried += 1
            slow = Slow(first, second)
            word, paper = bounded(facts, first, second)
            for wrong in self.spoilt(rng, slow, word, paper):
                key = word, self.judge(facts, slow, wrong, word == "bounded")
                counts[key] = counts.get(key, 0) + 1
        for word in ("bounded", "not"):
            self.assertGreater(counts[word, False], 200)
            self.assertGreater(counts[word, True], 20)

    def spoilt(self, rng, slow, word, paper):
        yield ()
        for k, (number, told) in enumerate(paper):
            rest = paper[:k] + paper[k + 1:]
            yield rest
            yield paper + (paper[k],)
            yield paper[::-1]
            for wrong in (-1, number + 1, number - 1, len(slow.ones)):
                yield paper[:k] + ((wrong, told),) + paper[k + 1:]
            if word == "bounded":
                changed = [(), told[1:], told[:-1], told + told[-1:], told[::-1], (-1,) + told, told + (len(slow.others),)]
                changed += [(d,) for d in range(len(slow.others))] + [tuple(range(len(slow.others)))]
            else:
                scene = rng.choice(slow.first[0])
                changed = [(), told[1:], told[:-1], told + (scene,), (scene,) + told, told + told, told + (("x", "on"),)]
            for other in changed:
                yield paper[:k] + ((number, other),) + paper[k + 1:]

    def test_random_papers(self):
        rng = random.Random(188)
        counts = {}
        for _ in range(400):
            facts, first, second = random_pair(rng, 5)
            if not has_runs(first) or not has_runs(second):
                continue
            slow = Slow(first, second)
            for _ in range(6):
                paper = tuple(
                    (k, tuple(d for d in range(len(slow.others)) if slow.covers[k][d] and rng.random() < 0.8))
                    for k in range(len(slow.ones)) for _ in range(rng.choice([1, 1, 2]))
                )
                chain = rng.choice(slow.chains() or [()])
                rows = tuple(
                    (k, tuple(rng.choice(first[0]) for _ in range(rng.randint(0, 4)))) for k in chain
                )
                one, other = self.judge(facts, slow, paper, True), self.judge(facts, slow, rows, False)
                # Never both.
                self.assertFalse(one and other)
                counts[one, other] = counts.get((one, other), 0) + 1
        self.assertGreater(counts[True, False], 50)
        self.assertGreater(counts[False, True], 20)

    def test_machines_without_components(self):
        letters = ((), ("on",))
        short = (letters, ((1, 1), (2, 2), (2, 2)), (1,))
        self.assertEqual(components(short), [])
        self.assertEqual(bounded(ONE, short, short), ("bounded", ()))
        self.assertIsNone(judge_bounded(ONE, short, EVERY, ()))
        with self.assertRaises(BadPaper):
            judge_unbounded(ONE, short, EVERY, ())
        self.assertEqual(bounded(ONE, EVERY, short)[0], "not")
        self.assertIsNone(judge_unbounded(ONE, EVERY, short, ((0, ()),)))
        with self.assertRaises(BadPaper):
            judge_bounded(ONE, EVERY, short, ())
        with self.assertRaises(BadPaper):
            judge_unbounded(ONE, EVERY, short, ())

    def test_a_set_of_covers_that_a_single_one_is_not(self):
        # Behind `off` for ever, the second machine may go on to `on` or stay: which one, hangs on the chain.
        first = machine_of(ONE, ("or", ("not", ON), ("some", "ends", ON)))
        for second in (EVERY, LAST, ALIKE, first):
            slow = Slow(first, second)
            self.assertEqual(bounded(ONE, first, second)[0] == "bounded", slow.is_bounded())

    def test_many_components(self):
        # Thirty components, one behind another: `on` for a while, then not, and so on.
        letters = ((), ("on",))
        rows = [(0, 1)] + [((at + 1, at) if at % 2 else (at, at + 1)) for at in range(1, 29)] + [(29, 29)]
        machine = (letters, tuple(rows), tuple(range(30)))
        self.assertEqual(len(components_of(ONE, machine)), 30)
        word, paper = bounded(ONE, machine, machine)
        self.assertEqual(word, "bounded")
        self.assertIsNone(judge_bounded(ONE, machine, machine, paper))
        fewer = (letters, tuple(rows[:20]) + ((20, 21), (21, 21)), tuple(range(21)))
        word, paper = bounded(ONE, machine, fewer)
        self.assertEqual(word, "not")
        self.assertIsNone(judge_unbounded(ONE, machine, fewer, paper))


class TheoremTest(unittest.TestCase):
    """[11.6]: against plain distances."""

    def runs(self, machine, most):
        for many in range(1, most + 1):
            for run in itertools.product(machine[0], repeat=many):
                if naive.lets(machine, run):
                    yield run

    def test_small_machines(self):
        rng = random.Random(189)
        counts = {"bounded": 0, "not": 0}
        while min(counts.values()) < 25:
            first, second = layered(rng, ONE, rng.randint(1, 4)), layered(rng, ONE, rng.randint(1, 4))
            if not has_runs(first) or not has_runs(second):
                continue
            word, paper = bounded(ONE, first, second)
            counts[word] += 1
            prices = (1, 1, (1,))
            if word == "bounded":
                # As many deeds as twice the rooms, for each component and between them, are more than enough.
                most = 4 * (len(first[1]) + 1) * (len(second[1]) + 1)
                for run in self.runs(first, 7):
                    self.assertLessEqual(distance(ONE, prices, run, second), most)
                    long = self.stretched(first, run)
                    if long is not None:
                        self.assertLessEqual(distance(ONE, prices, long, second), most)
            else:
                self.assertGreater(self.far(first, second, paper, prices), 6)

    def stretched(self, machine, run):
        """A run with each way around in it gone many times, None if there is none."""
        rooms = [0]
        for scene in run:
            rooms.append(machine[1][rooms[-1]][machine[0].index(scene)])
        for i, room in enumerate(rooms):
            later = [j for j in range(i + 1, len(rooms)) if rooms[j] == room]
            if later:
                return run[:i] + run[i:later[0]] * 20 + run[later[0]:]
        return None

    def far(self, first, second, paper, prices):
        """The distance of a run in which the rows of a paper stand often, one chain's end behind another."""
        found = components(first)
        run, room = (), 0
        for k, row in paper:
            start = next(r for r in found[k] if slow_takes_from(first, found[k], r, row))
            run, room = run + way(first, room, start), start
            for _ in range(30):
                for scene in row or (first[0][self.inner_letter(first, found[k], room)],):
                    run, room = run + (scene,), first[1][room][first[0].index(scene)]
                back = way_within(first, found[k], room, start)
                run, room = run + back, start
        let = next(r for r in first[2] if r in ahead_of(first, room))
        run = run + way(first, room, let)
        self.assertTrue(naive.lets(first, run))
        return distance(ONE, prices, run, second)

    def inner_letter(self, machine, rooms, room):
        return next(at for at, after in enumerate(machine[1][room]) if after in rooms)


def way(machine, room, other):
    return way_within(machine, set(range(len(machine[1]))), room, other)


def way_within(machine, rooms, room, other):
    """A shortest row through some rooms."""
    found = {room: ()}
    order = [room]
    for at in order:
        for scene, after in zip(machine[0], machine[1][at]):
            if after in rooms and after not in found:
                found[after] = found[at] + (scene,)
                order.append(after)
    return found[other]


if __name__ == "__main__":
    unittest.main()
