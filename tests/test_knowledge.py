"""knowledge.py: [14.5], [14.6]."""

import random
import unittest
from unittest import mock

from spansay import knowledge
from spansay.builders import builder_of, wrong_of
from spansay.errors import BadPaper, NotAllowed, TooLarge
from spansay.games import PLAYERS, solve
from spansay.knowledge import MAX_POSITIONS, count_positions, judge_sight, solve_sight
from spansay.least import machine_of
from spansay.sayingtexts import read_saying
from spansay.sights import AIMS
from tests import naive
from tests.test_games import LAST_SAME, random_machine, scene_of
from tests.test_sights import random_sight
from tests.test_takers import BEYOND_THE_BOUNDS, FACTS as THREE_FACTS

FACTS = ("on", "up")
SAME = ("or", ("and", ("fact", "on"), ("fact", "up")), ("and", ("not", ("fact", "on")), ("not", ("fact", "up"))))
FIRST = ((0,), ())
# Found by search: the number of positions, the facts, the sight and the machine.
TWO = ((), ("on",), ("up",), ("on", "up"))
ALMOST = ((1, 1, 1, 1), (2, 9, 2, 9), (3, 8, 3, 8), (4, 0, 4, 0), (5, 5, 5, 5), (6, 1, 6, 3), (7, 0, 7, 5), (8, 5, 8, 5),
          (9, 6, 9, 6), (0, 3, 0, 3))
BEYOND = ((1, 6, 1, 2), (2, 0, 2, 1), (3, 8, 3, 1), (4, 0, 4, 1), (5, 4, 5, 2), (6, 2, 6, 3), (7, 6, 7, 6), (8, 0, 8, 8),
          (9, 9, 9, 4), (0, 3, 0, 8))
OFTEN = (("on",), (), "builder", "often")
NEAR_THE_BOUND = tuple(
    (many, FACTS, (("on",), (), first, goal), (TWO, rows, tuple(range(10)) if goal == "always" else ()))
    for many, rows in ((600, ALMOST), (602, BEYOND)) for goal in ("always", "once") for first in PLAYERS
) + (
    (600, FACTS, OFTEN, (TWO, (
        (1, 5, 1, 5), (2, 4, 2, 5), (3, 6, 3, 6), (4, 5, 4, 4), (5, 0, 5, 7), (6, 5, 6, 6), (7, 1, 7, 1), (0, 3, 0, 3),
    ), (6,))),
    (601, FACTS, OFTEN, (TWO, (
        (1, 5, 1, 5), (2, 6, 2, 0), (3, 1, 3, 1), (4, 5, 4, 1), (5, 1, 5, 3), (6, 0, 6, 0), (7, 2, 7, 2), (0, 7, 0, 7),
    ), (0, 1, 4))),
)
# Found by search: sayings for which more than 600 positions can come up, with the sight.
WINDOW = ("some ends (some begins some begins some begins some begins point and not some begins some begins some begins "
          "some begins some begins point and some begins (point and (")
TOO_LARGE = (
    (THREE_FACTS, (("on",), ("up",), "builder", "often"), WINDOW + "x and on or up))) and some begins (up or x)"),
    (THREE_FACTS, (("on",), ("up",), "breaker", "often"), "not " + WINDOW + "x and on or up))) and (some meets x or not on)"),
)


def choices(facts, sight):
    own, seen, _, _ = sight
    return naive.scenes(own), naive.scenes(seen), naive.scenes(tuple(fact for fact in facts if fact not in own))


def seen_of(sight, other):
    return tuple(fact for fact in other if fact in sight[1])


def behind(facts, sight, machine, position, choice, glimpse):
    """[14.5], word by word: a position, or "lost" or "done"."""
    def step(rooms):
        others = [other for other in choices(facts, sight)[2] if seen_of(sight, other) == glimpse]
        places = [machine[0].index(scene_of(facts, choice, other)) for other in others]
        return {machine[1][room][place] for room in rooms for place in places}

    rooms, owing = position
    a, b = step(rooms), step(owing)
    goal = sight[3]
    if goal == "always":
        return "lost" if any(room not in machine[2] for room in a) else (tuple(sorted(a)), ())
    if goal == "once":
        rest = tuple(sorted(room for room in a if room not in machine[2]))
        return (rest, ()) if rest else "done"
    return (tuple(sorted(a)), tuple(sorted(room for room in (b if owing else a) if room not in machine[2])))


def positions(facts, sight, machine, most=700):
    found = [FIRST]
    for position in found:
        for choice in choices(facts, sight)[0]:
            for glimpse in choices(facts, sight)[1]:
                after = behind(facts, sight, machine, position, choice, glimpse)
                if after not in ("lost", "done") and after not in found:
                    found.append(after)
        if len(found) > most:
            break
    return found


def winner(facts, sight, machine):
    """Who wins the play of positions, by going round until nothing changes."""
    mine, glimpses, _ = choices(facts, sight)
    found = positions(facts, sight, machine)

    def can(position, good):
        """Whether the builder gets what is good, from a position."""
        table = [[good(behind(facts, sight, machine, position, c, g)) for g in glimpses] for c in mine]
        if sight[2] == "builder":
            return any(all(row) for row in table)
        return all(any(row) for row in zip(*table))

    if sight[3] == "always":
        stays = set(found)
        while True:
            less = {p for p in stays if can(p, lambda after: after in stays)}
            if less == stays:
                return "builder" if FIRST in stays else "breaker"
            stays = less
    if sight[3] == "once":
        return "builder" if FIRST in attracted(found, can, lambda after: after == "done") else "breaker"
    hits = {p for p in found if not p[1]}
    while True:
        wins = attracted(found, can, lambda after: after in hits)
        if hits & wins == hits:
            return "builder" if FIRST in wins else "breaker"
        hits &= wins


def attracted(found, can, is_hit):
    wins = set()
    while True:
        more = {p for p in found if p in wins or can(p, lambda after: is_hit(after) or after in wins)}
        if more == wins:
            return wins
        wins = more


def is_right(facts, sight, machine, player, paper):
    """[14.6], word by word."""
    mine, glimpses, _ = choices(facts, sight)
    own, others = (mine, glimpses) if player == "builder" else (glimpses, mine)
    ranks = {}
    for (rooms, owing), rank, chosen in paper:
        if not rooms or any(list(part) != sorted(set(part)) for part in (rooms, owing)):
            return False
        if any(not 0 <= room < len(machine[1]) for room in rooms) or not set(owing) <= set(rooms):
            return False
        if owing and sight[3] != "often" or rank < 0 or (rooms, owing) in ranks:
            return False
        if len(chosen) != (1 if sight[2] == player else len(others)) or any(choice not in own for choice in chosen):
            return False
        ranks[rooms, owing] = rank
    if FIRST not in ranks:
        return False
    for position, rank, chosen in paper:
        for k, other in enumerate(others):
            choice = chosen[0 if sight[2] == player else k]
            pair = (choice, other) if player == "builder" else (other, choice)
            after = behind(facts, sight, machine, position, *pair)
            there = after in ranks
            less = there and ranks[after] < rank
            right = {
                ("always", "builder"): after != "lost" and there,
                ("always", "breaker"): after == "lost" or less,
                ("once", "builder"): after == "done" or less,
                ("once", "breaker"): after != "done" and there,
                ("often", "builder"): there and (not after[1] or less),
                ("often", "breaker"): there and ranks[after] <= rank and (less or bool(after[1])),
            }[sight[3], player]
            if not right:
                return False
    return True


class SolveTest(unittest.TestCase):
    def test_examples(self):
        sight = (("on",), ("up",), "breaker", "always")
        saying = ("and", ("or", ("not", ("point",)), SAME), LAST_SAME)
        player, machine, paper = solve_sight(FACTS, sight, saying)
        self.assertEqual(player, "builder")
        self.assertEqual(machine, machine_of(FACTS, saying))
        self.assertTrue(is_right(FACTS, sight, machine, player, paper))
        self.assertEqual(solve_sight(FACTS, (("on",), (), "breaker", "always"), saying)[0], "breaker")

    def test_constant(self):
        self.assertEqual(MAX_POSITIONS, 600)

    def test_who_has_a_paper(self):
        rng = random.Random(222)
        seen = {}
        tried = 0
        while tried < 300:
            facts = THREE_FACTS[:rng.randint(1, 3)]
            sight = random_sight(rng, facts, AIMS)
            saying = naive.random_saying(rng, facts, rng.randint(1, 7))
            machine = machine_of(facts, saying)
            if len(positions(facts, sight, machine, 60)) > 60:
                continue
            tried += 1
            player, found, paper = solve_sight(facts, sight, saying)
            self.assertEqual(found, machine)
            self.assertEqual(player, winner(facts, sight, machine), (facts, sight, saying))
            self.assertTrue(is_right(facts, sight, machine, player, paper))
            self.assertIsNone(judge_sight(facts, sight, machine, player, paper))
            key = (sight[3], sight[2], player)
            seen[key] = seen.get(key, 0) + 1
        self.assertEqual(len(seen), 12)

    def test_builders_machines_of_papers_win(self):
        rng = random.Random(223)
        counts = {}
        for _ in range(150):
            facts = THREE_FACTS[:rng.randint(1, 3)]
            sight = random_sight(rng, facts, AIMS)
            saying = naive.random_saying(rng, facts, rng.randint(1, 7))
            try:
                player, machine, paper = solve_sight(facts, sight, saying)
            except TooLarge:
                continue
            if player == "builder":
                self.assertIsNone(wrong_of(facts, sight, machine, builder_of(facts, sight, machine, paper)))
                counts[sight[3]] = counts.get(sight[3], 0) + 1
        self.assertEqual(len(counts), 3)

    def test_everything_seen_is_a_game(self):
        rng = random.Random(224)
        for _ in range(120):
            facts = FACTS[:rng.randint(1, 2)]
            own = tuple(fact for fact in facts if rng.random() < 0.5)
            seen = tuple(fact for fact in facts if fact not in own)
            first, goal = rng.choice(PLAYERS), rng.choice(AIMS)
            saying = naive.random_saying(rng, facts, rng.randint(1, 7))
            found = solve_sight(facts, (own, seen, first, goal), saying)[0]
            self.assertEqual(found, solve(facts, (own, first, goal), saying)[0])

    def test_seeing_less_never_helps_the_builder(self):
        rng = random.Random(225)
        different = 0
        for k in range(150):
            first, goal = rng.choice(PLAYERS), rng.choice(AIMS)
            saying = naive.random_saying(rng, FACTS, rng.randint(1, 7)) if k > 20 else LAST_SAME
            found = [solve_sight(FACTS, (("on",), seen, first, goal), saying)[0] for seen in ((), ("up",))]
            self.assertNotEqual(found, ["builder", "breaker"])
            different += found == ["breaker", "builder"]
        self.assertGreater(different, 3)


class JudgeTest(unittest.TestCase):
    def judge(self, facts, sight, machine, player, paper):
        expected = is_right(facts, sight, machine, player, paper)
        if expected:
            self.assertIsNone(judge_sight(facts, sight, machine, player, paper))
        else:
            with self.assertRaises(BadPaper, msg=(facts, sight, machine, player, paper)):
                judge_sight(facts, sight, machine, player, paper)
        return expected

    def solved(self, rng):
        while True:
            facts = THREE_FACTS[:rng.randint(1, 3)]
            sight = random_sight(rng, facts, AIMS)
            try:
                player, machine, paper = solve_sight(facts, sight, naive.random_saying(rng, facts, rng.randint(1, 6)))
            except TooLarge:
                continue
            if len(paper) <= 12:
                return facts, sight, machine, player, paper

    def test_greater_ranks(self):
        rng = random.Random(226)
        for _ in range(120):
            *right, paper = self.solved(rng)
            self.assertTrue(self.judge(*right, paper[::-1]))
            self.assertTrue(self.judge(*right, tuple((place, rank + 7, told) for place, rank, told in paper)))
            self.assertTrue(self.judge(*right, tuple((place, 10 * rank, told) for place, rank, told in paper)))

    def test_spoilt_papers(self):
        rng = random.Random(227)
        counts = {}
        for _ in range(130):
            facts, sight, machine, player, paper = self.solved(rng)
            right = (facts, sight, machine, player)
            other = PLAYERS[1 - PLAYERS.index(player)]
            self.assertFalse(self.judge(facts, sight, machine, other, paper))
            self.assertFalse(self.judge(*right, ()))
            for k, (place, rank, told) in enumerate(paper):
                rest = paper[:k] + paper[k + 1:]
                self.judge(*right, rest)
                self.assertFalse(self.judge(*right, paper + (paper[k],)))
                for row in self.rows(rng, facts, machine, place, rank, told):
                    found = self.judge(*right, rest + (row,))
                    counts[sight[3], player, found] = counts.get((sight[3], player, found), 0) + 1
        self.assertEqual(len(counts), 12)

    def rows(self, rng, facts, machine, place, rank, told):
        rooms, owing = place
        many = len(machine[1])
        for other in (
            ((), ()), ((), owing), (rooms[::-1], owing), (rooms + rooms[-1:], owing), (rooms + (many,), owing), ((-1,) + rooms, owing),
            (rooms, owing + (many,)), (rooms, rooms), (rooms, ()), (rooms, owing + owing), (rooms[1:], owing), (rooms, (0,)),
            (tuple(range(many)), owing), (rooms, tuple(range(many))), ((0,), ()), (rooms, (-1,)),
        ):
            yield (other, rank, told)
        for other in (-1, 0, rank + 1, rank - 1, 50):
            yield (place, other, told)
        yield (place, rank, ())
        yield (place, rank, told[:-1])
        yield (place, rank, told + told[:1])
        yield (place, rank, told[:-1] + (("y",),))
        yield (place, rank, told[:-1] + (facts[::-1] + ("y",),))
        for at in range(len(told)):
            for scene in naive.scenes(facts):
                yield (place, rank, told[:at] + (scene,) + told[at + 1:])

    def test_random_papers(self):
        rng = random.Random(228)
        right = {}
        for _ in range(6000):
            facts = FACTS[:rng.randint(1, 2)]
            sight = random_sight(rng, facts, AIMS)
            machine = random_machine(rng, facts, rng.randint(1, 2))
            player = rng.choice(PLAYERS)
            mine, glimpses, _ = choices(facts, sight)
            own, others = (mine, glimpses) if player == "builder" else (glimpses, mine)
            rows = []
            for place in positions(facts, sight, machine):
                many = 1 if sight[2] == player else len(others)
                rows.append((place, rng.randint(0, 3), tuple(rng.choice(own) for _ in range(many))))
            rng.shuffle(rows)
            if self.judge(facts, sight, machine, player, tuple(rows)):
                right[sight[3], player] = right.get((sight[3], player), 0) + 1
        self.assertEqual(len(right), 6)

    def test_positions_that_do_not_come_up(self):
        # A further position is right if what comes behind it is, although no play comes to it.
        machine = (tuple(naive.scenes(("on",))), ((0, 0), (1, 1)), (0, 1))
        sight = ((), (), "builder", "always")
        first = (FIRST, 0, ((),))
        for place in (((1,), ()), ((0, 1), ())):
            self.assertTrue(self.judge(("on",), sight, machine, "builder", (first, (place, 3, ((),)))))


class CountTest(unittest.TestCase):
    def test_positions(self):
        rng = random.Random(229)
        sizes = {}
        for _ in range(300):
            facts = THREE_FACTS[:rng.randint(1, 3)]
            sight = random_sight(rng, facts, AIMS)
            machine = random_machine(rng, facts, rng.randint(1, 4))
            many = len(positions(facts, sight, machine))
            self.assertEqual(count_positions(facts, sight, machine), many)
            sizes[sight[3], many > 4] = sizes.get((sight[3], many > 4), 0) + 1
        self.assertEqual(len(sizes), 6)

    def test_six_hundred_and_more(self):
        for many, facts, sight, machine in NEAR_THE_BOUND:
            self.assertEqual(len(positions(facts, sight, machine)), many)
            if many > MAX_POSITIONS:
                with self.assertRaises(TooLarge):
                    count_positions(facts, sight, machine)
            else:
                self.assertEqual(count_positions(facts, sight, machine), many)
            # A judge takes papers all the same.
            with self.assertRaises(BadPaper):
                judge_sight(facts, sight, machine, "builder", ())
        self.assertEqual({many > MAX_POSITIONS for many, *_ in NEAR_THE_BOUND}, {True, False})

    def test_sayings_with_too_many_positions(self):
        for facts, sight, text in TOO_LARGE:
            with self.assertRaises(TooLarge):
                solve_sight(facts, sight, read_saying(facts, text))
            with self.assertRaises(TooLarge):
                count_positions(facts, sight, machine_of(facts, read_saying(facts, text)))

    def test_each_goal_with_too_many_positions(self):
        # For two goals no saying with so many positions was found: the bound is lowered here.
        rng = random.Random(230)
        for _ in range(60):
            facts = THREE_FACTS[:rng.randint(1, 3)]
            sight = random_sight(rng, facts, AIMS)
            saying = naive.random_saying(rng, facts, rng.randint(1, 7))
            many = count_positions(facts, sight, machine_of(facts, saying))
            with mock.patch.object(knowledge, "MAX_POSITIONS", many):
                told = solve_sight(facts, sight, saying)
            self.assertEqual(told, solve_sight(facts, sight, saying))
            with mock.patch.object(knowledge, "MAX_POSITIONS", many - 1):
                with self.assertRaises(TooLarge):
                    solve_sight(facts, sight, saying)


class ErrorsTest(unittest.TestCase):
    def test_lastly(self):
        sight = (("on",), (), "builder", "lastly")
        machine = machine_of(FACTS, ("fact", "on"))
        for call in (
            lambda: solve_sight(FACTS, sight, ("fact", "on")), lambda: count_positions(FACTS, sight, machine),
            lambda: judge_sight(FACTS, sight, machine, "builder", ()), lambda: builder_of(FACTS, sight, machine, ()),
        ):
            with self.assertRaises(NotAllowed):
                call()
        large = read_saying(THREE_FACTS, BEYOND_THE_BOUNDS[2][3])
        with self.assertRaises(NotAllowed):
            solve_sight(THREE_FACTS, sight, large)
        with self.assertRaises(TooLarge):
            solve_sight(THREE_FACTS, sight[:3] + ("often",), large)

    def test_what_is_no_sight(self):
        machine = machine_of(FACTS, ("fact", "on"))
        for sight in (
            (("on",), ("on",), "builder", "once"), (("up", "on"), (), "builder", "once"), ((), (), "seeker", "once"),
            ((), (), "builder", "never"), ((), ("y",), "builder", "lastly"),
        ):
            for call in (
                lambda: solve_sight(FACTS, sight, ("fact", "on")), lambda: count_positions(FACTS, sight, machine),
                lambda: judge_sight(FACTS, sight, machine, "builder", ()), lambda: builder_of(FACTS, sight, machine, ()),
            ):
                with self.assertRaises(NotAllowed):
                    call()
        large = read_saying(THREE_FACTS, BEYOND_THE_BOUNDS[2][3])
        with self.assertRaises(NotAllowed):
            solve_sight(THREE_FACTS, (("on",), ("on",), "builder", "once"), large)

    def test_letters_that_are_not_the_scenes(self):
        sight = (("on",), (), "builder", "once")
        for letters in (tuple(range(4)), tuple(naive.scenes(FACTS))[::-1], ((), ("on",))):
            machine = (letters, ((0,) * len(letters),), ())
            for call in (
                lambda: count_positions(FACTS, sight, machine), lambda: judge_sight(FACTS, sight, machine, "builder", ()),
                lambda: builder_of(FACTS, sight, machine, ()),
            ):
                with self.assertRaises(NotAllowed):
                    call()


if __name__ == "__main__":
    unittest.main()
