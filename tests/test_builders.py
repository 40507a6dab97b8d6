"""builders.py: [14.2], [14.3], [14.4], [14.7], [14.8]."""

import itertools
import random
import unittest

from spansay.builders import (
    MAX_BUILDER, Run, builder_of, check_builder, judge_wrong, pairs_played, system_of, wrong_of,
)
from spansay.errors import BadPaper, Missing, NotAllowed, TooLarge
from spansay.games import GOALS, PLAYERS
from spansay.knowledge import solve_sight
from spansay.least import machine_of
from spansay.sights import AIMS
from spansay.systems import check_system
from tests import naive
from tests.test_games import LAST_SAME, on_cycles, random_machine, reached_by, scene_of
from tests.test_knowledge import FIRST, SAME, behind as position_behind, choices, seen_of
from tests.test_sights import random_sight

FACTS = ("on", "up")
THREE = ("on", "up", "x")


def place_of(sight, glimpses, other):
    """The place of the choice that is due, and that of the move."""
    at = glimpses.index(seen_of(sight, other))
    return (0 if sight[2] == "builder" else at), at


def step(facts, sight, machine, builder, pair, other):
    """[14.2] and [14.3]: the scene of a place, and the pair behind it."""
    _, glimpses, _ = choices(facts, sight)
    k, at = place_of(sight, glimpses, other)
    row = builder[pair[0]]
    scene = scene_of(facts, row[0][k], other)
    return scene, (row[1][at], machine[1][pair[1]][machine[0].index(scene)])


def graph_of(facts, sight, machine, builder):
    """The pairs in the order in which they are met, and for each of them the numbers of those behind it."""
    pairs, after = [(0, 0)], []
    for pair in pairs:
        row = set()
        for other in choices(facts, sight)[2]:
            coming = step(facts, sight, machine, builder, pair, other)[1]
            if coming not in pairs:
                pairs.append(coming)
            row.add(pairs.index(coming))
        after.append(row)
    return pairs, after


def wins(facts, sight, machine, builder):
    """Whether a builder's machine wins, by plain search over the pairs."""
    pairs, after = graph_of(facts, sight, machine, builder)
    come_to = reached_by(after, after[0])
    breaking = {at for at in range(len(pairs)) if pairs[at][1] not in machine[2]}
    if sight[3] == "always":
        return not come_to & breaking
    if sight[3] == "once":
        inner = [{at for at in row if at in breaking} for row in after]
        return not on_cycles(inner, reached_by(inner, inner[0]))
    if sight[3] == "often":
        return not on_cycles(after, come_to & breaking)
    return not on_cycles(after, come_to) & breaking


def is_wrong(facts, sight, machine, builder, stem, cycle):
    """[14.4], word by word."""
    if any(choice not in choices(facts, sight)[2] for choice in stem + cycle):
        return False
    pair = (0, 0)
    told = []
    pairs = [pair]
    for other in stem + cycle:
        pair = step(facts, sight, machine, builder, pair, other)[1]
        pairs.append(pair)
        told.append(pair[1] in machine[2])
    if sight[3] == "always":
        return cycle == () and stem != () and not told[-1]
    if cycle == () or pairs[-1] != pairs[len(stem)]:
        return False
    behind = told[len(stem):]
    return {"once": not any(told), "often": not any(behind), "lastly": not all(behind)}[sight[3]]


def random_builder(rng, facts, sight, many):
    mine, glimpses, _ = choices(facts, sight)
    rows = []
    for _ in range(many):
        told = tuple(rng.choice(mine) for _ in range(1 if sight[2] == "builder" else len(glimpses)))
        rows.append((told, tuple(rng.randrange(many) for _ in glimpses)))
    return tuple(rows)


def random_case(rng, rooms=3, most=4, goals=GOALS):
    facts = THREE[:rng.randint(1, 3)]
    sight = random_sight(rng, facts, goals)
    return facts, sight, random_machine(rng, facts, rng.randint(1, most)), random_builder(rng, facts, sight, rng.randint(1, rooms))


class ExamplesTest(unittest.TestCase):
    def test_examples(self):
        facts, sight = ("on", "up"), (("on",), ("up",), "breaker", "always")
        saying = ("and", ("or", ("not", ("point",)), SAME), LAST_SAME)
        player, machine, paper = solve_sight(facts, sight, saying)
        self.assertEqual((player, builder_of(facts, sight, machine, paper)[0][0]), ("builder", ((), ("on",))))
        blind = (("on",), (), "breaker", "always")
        found = solve_sight(facts, blind, saying)[0], wrong_of(facts, blind, machine, ((((),), (0,)),)) is None
        self.assertEqual(found, ("breaker", False))
        self.assertIsNone(judge_wrong(facts, blind, machine, ((((),), (0,)),), (("up",),), ()))
        self.assertEqual(
            system_of(facts, sight, ((((), ("on",)), (0, 0)),)), (((), ("on", "up")), (0, 1), ((0, 1), (0, 1)))
        )

    def test_constant(self):
        self.assertEqual(MAX_BUILDER, 601)


class CheckTest(unittest.TestCase):
    def refused(self, facts, sight, builder):
        with self.assertRaises(NotAllowed, msg=(sight, builder)):
            check_builder(facts, sight, builder)
        machine = machine_of(facts, ("fact", "on"))
        for call in (
            lambda: pairs_played(facts, sight, machine, builder), lambda: wrong_of(facts, sight, machine, builder),
            lambda: judge_wrong(facts, sight, machine, builder, (), ()), lambda: system_of(facts, sight, builder),
            lambda: Run(facts, sight, builder),
        ):
            with self.assertRaises(NotAllowed):
                call()

    def test_right_ones(self):
        rng = random.Random(231)
        for _ in range(200):
            facts, sight, _, builder = random_case(rng, 6)
            self.assertIsNone(check_builder(facts, sight, builder))

    def test_spoilt(self):
        rng = random.Random(232)
        for _ in range(60):
            facts, sight, _, builder = random_case(rng)
            self.refused(facts, sight, ())
            for k, (told, moves) in enumerate(builder):
                rows = [
                    ((), moves), (told[:-1], moves), (told + told[:1], moves), (told, ()), (told, moves[:-1]), (told, moves + (0,)),
                    (told, (len(builder),) + moves[1:]), (told, moves[:-1] + (-1,)), ((("y",),) + told[1:], moves),
                    (told[:-1] + (("",),), moves), (told[:-1] + (facts + facts,), moves),
                ]
                rest = tuple(fact for fact in facts if fact not in sight[0])
                if rest:
                    rows.append((told[:-1] + (rest,), moves))
                if len(sight[0]) > 1:
                    rows.append((told[:-1] + (sight[0][::-1],), moves))
                for row in rows:
                    self.refused(facts, sight, builder[:k] + (row,) + builder[k + 1:])

    def test_the_number_of_choices_hangs_on_who_is_first(self):
        row, more = ((("on",),), (0, 0)), ((("on",), ()), (0, 0))
        self.assertIsNone(check_builder(FACTS, (("on",), ("up",), "builder", "once"), (row,)))
        self.assertIsNone(check_builder(FACTS, (("on",), ("up",), "breaker", "once"), (more,)))
        self.refused(FACTS, (("on",), ("up",), "builder", "once"), (more,))
        self.refused(FACTS, (("on",), ("up",), "breaker", "once"), (row,))

    def test_six_hundred_and_one_rows_and_more(self):
        sight = (("on",), (), "builder", "once")
        row = ((("on",),), (600,))
        self.assertIsNone(check_builder(FACTS, sight, (row,) * 601))
        self.refused(FACTS, sight, (row,) * 602)
        self.refused(FACTS, sight, (row,) * 600)
        self.assertEqual(pairs_played(FACTS, sight, machine_of(FACTS, ("fact", "on")), (row,) * 601)[-1][0], 600)

    def test_sights_and_letters(self):
        builder = (((("on",),), (0,)),)
        for sight in ((("on",), ("on",), "builder", "once"), (("on",), (), "seeker", "once"), (("on",), (), "builder", "never")):
            self.refused(FACTS, sight, builder)
        sight = (("on",), (), "builder", "once")
        for letters in (tuple(range(4)), tuple(naive.scenes(FACTS))[::-1], ((), ("on",))):
            machine = (letters, ((0,) * len(letters),), ())
            for call in (
                lambda: pairs_played(FACTS, sight, machine, builder), lambda: wrong_of(FACTS, sight, machine, builder),
                lambda: judge_wrong(FACTS, sight, machine, builder, (), ()),
            ):
                with self.assertRaises(NotAllowed):
                    call()


class PlayedTest(unittest.TestCase):
    def test_pairs(self):
        rng = random.Random(233)
        firsts = {True: 0, False: 0}
        for _ in range(300):
            case = random_case(rng)
            pairs, after = graph_of(*case)
            expected = tuple(sorted({pairs[at] for row in after for at in row}))
            self.assertEqual(pairs_played(*case), expected)
            firsts[(0, 0) in expected] += 1
        self.assertGreater(min(firsts.values()), 30)

    def test_who_wins(self):
        rng = random.Random(234)
        counts = {}
        for _ in range(1500):
            case = random_case(rng)
            found = wrong_of(*case)
            self.assertEqual(found is None, wins(*case), case)
            if found is not None:
                self.assertTrue(is_wrong(*case, *found))
                self.assertIsNone(judge_wrong(*case, *found))
            key = (case[1][3], case[1][2], found is None)
            counts[key] = counts.get(key, 0) + 1
        self.assertEqual(len(counts), 16)
        self.assertGreater(min(counts.values()), 10)

    def test_great_builders(self):
        # Two ways around that meet all pairs: the longest stems and cycles there are.
        sight = ((), (), "builder", "always")
        builder = tuple(((((),), ((at + 1) % 601,))) for at in range(601))
        machine = (((), ("on",)), tuple(((at + 1) % 59,) * 2 for at in range(59)), tuple(range(58)))
        found = wrong_of(("on",), sight, machine, builder)
        self.assertEqual((len(found[0]), found[1]), (58, ()))
        for goal, let in (("once", ()), ("often", ()), ("lastly", tuple(range(1, 59)))):
            told = (machine[0], machine[1], let)
            stem, cycle = wrong_of(("on",), sight[:3] + (goal,), told, builder)
            self.assertEqual(len(cycle), 601 * 59)
            self.assertIsNone(judge_wrong(("on",), sight[:3] + (goal,), told, builder, stem, cycle))
        self.assertEqual(len(pairs_played(("on",), sight, machine, builder)), 601 * 59)

    def judge(self, case, stem, cycle):
        right = is_wrong(*case, stem, cycle)
        if right:
            self.assertIsNone(judge_wrong(*case, stem, cycle))
        else:
            with self.assertRaises(BadPaper, msg=(case, stem, cycle)):
                judge_wrong(*case, stem, cycle)
        return right

    def test_spoilt_wrong_runs(self):
        rng = random.Random(235)
        counts = {}
        for _ in range(400):
            case = random_case(rng)
            found = wrong_of(*case)
            if found is None:
                continue
            stem, cycle = found
            others = choices(*case[:2])[2]
            changed = [((), ()), (stem, ()), ((), cycle), (cycle, stem), (stem + cycle, cycle), (stem, cycle + cycle), (stem + cycle, ())]
            for k in range(len(stem)):
                changed += [(stem[:k] + stem[k + 1:], cycle), (stem[:k] + (("y",),) + stem[k + 1:], cycle)]
                changed += [(stem[:k] + (other,) + stem[k:], cycle) for other in others]
                changed += [(stem[:k] + (other,) + stem[k + 1:], cycle) for other in others]
            for k in range(len(cycle)):
                changed += [(stem, cycle[:k] + cycle[k + 1:]), (stem, cycle[:k] + (("on", "on"),) + cycle[k + 1:])]
                changed += [(stem, cycle[:k] + (other,) + cycle[k:]) for other in others]
                changed += [(stem, cycle[:k] + (other,) + cycle[k + 1:]) for other in others]
            for other in changed:
                key = (case[1][3], self.judge(case, *other))
                counts[key] = counts.get(key, 0) + 1
        for goal in GOALS:
            self.assertGreater(min(counts[goal, True], counts[goal, False]), 30)

    def test_random_rows(self):
        rng = random.Random(236)
        counts = {}
        for _ in range(4000):
            case = random_case(rng, 2, 2)
            others = choices(*case[:2])[2]
            stem = tuple(rng.choice(others) for _ in range(rng.randint(0, 2)))
            cycle = tuple(rng.choice(others) for _ in range(rng.randint(0, 2)))
            key = (case[1][3], self.judge(case, stem, cycle))
            counts[key] = counts.get(key, 0) + 1
        self.assertEqual(len(counts), 8)

    def test_choices_of_the_builder(self):
        sight = (("on",), (), "builder", "once")
        machine = machine_of(FACTS, ("and", ("fact", "up"), ("not", ("fact", "up"))))
        builder = ((((),), (0,)),)
        self.assertIsNone(judge_wrong(FACTS, sight, machine, builder, ((),), ((),)))
        for choice in (("on",), ("on", "up"), ("up", "up")):
            with self.assertRaises(BadPaper):
                judge_wrong(FACTS, sight, machine, builder, ((),), (choice,))


class PapersTest(unittest.TestCase):
    def slow_builder(self, facts, sight, machine, paper):
        """[14.7], room by room."""
        mine, glimpses, _ = choices(facts, sight)
        plan = {position: told for position, _, told in paper}
        met = [FIRST]
        rows = []
        for position in met:
            if position == "done":
                many = 1 if sight[2] == "builder" else len(glimpses)
                rows.append(((mine[0],) * many, (met.index("done"),) * len(glimpses)))
                continue
            told = plan[position]
            moves = []
            for k, glimpse in enumerate(glimpses):
                after = position_behind(facts, sight, machine, position, told[0 if sight[2] == "builder" else k], glimpse)
                if after not in met:
                    met.append(after)
                moves.append(met.index(after))
            rows.append((told, tuple(moves)))
        return tuple(rows)

    def solved(self, rng):
        while True:
            facts = THREE[:rng.randint(1, 3)]
            sight = random_sight(rng, facts, AIMS)
            try:
                player, machine, paper = solve_sight(facts, sight, naive.random_saying(rng, facts, rng.randint(1, 6)))
            except TooLarge:
                continue
            if player == "builder" and len(paper) < 40:
                return facts, sight, machine, paper

    def test_room_by_room(self):
        rng = random.Random(237)
        counts = {}
        for _ in range(250):
            case = self.solved(rng)
            builder = builder_of(*case)
            self.assertEqual(builder, self.slow_builder(*case))
            self.assertIsNone(check_builder(case[0], case[1], builder))
            self.assertTrue(wins(case[0], case[1], case[2], builder))
            key = (case[1][3], case[1][2])
            counts[key] = max(counts.get(key, 0), len(builder))
        self.assertEqual(len(counts), 6)
        self.assertGreater(min(counts.values()), 1)

    def test_papers_in_another_order_and_with_more(self):
        rng = random.Random(238)
        for _ in range(60):
            facts, sight, machine, paper = self.solved(rng)
            self.assertEqual(builder_of(facts, sight, machine, paper[::-1]), builder_of(facts, sight, machine, paper))
            wider = tuple((position, rank + 4, told) for position, rank, told in paper)
            self.assertEqual(builder_of(facts, sight, machine, wider), builder_of(facts, sight, machine, paper))

    def test_the_first_position_comes_again(self):
        machine = (((), ("on",)), ((1, 0), (0, 2), (2, 2)), (0, 1))
        sight = (("on",), (), "builder", "always")
        paper = ((((1,), ()), 0, ((),)), (FIRST, 0, ((),)))
        self.assertEqual(builder_of(("on",), sight, machine, paper), ((((),), (1,)), (((),), (0,))))
        paper = ((FIRST, 0, (("on",),)), (((1,), ()), 0, ((),)))
        self.assertEqual(builder_of(("on",), sight, machine, paper), (((("on",),), (0,)),))

    def test_papers_that_are_not_right(self):
        rng = random.Random(239)
        for _ in range(60):
            facts, sight, machine, paper = self.solved(rng)
            for wrong in ((), tuple(row for row in paper if row[0] != FIRST), paper + paper[:1]):
                with self.assertRaises(BadPaper):
                    builder_of(facts, sight, machine, wrong)
        # A paper of the breaker is none of the builder.
        sight = (("on",), (), "breaker", "always")
        player, machine, paper = solve_sight(FACTS, sight, SAME)
        self.assertEqual(player, "breaker")
        with self.assertRaises(BadPaper):
            builder_of(FACTS, sight, machine, paper)


class SystemTest(unittest.TestCase):
    def slow_system(self, facts, sight, builder):
        """[14.8]; None if there are too many states."""
        machine = (tuple(naive.scenes(facts)), ((0,) * 2 ** len(facts),), ())
        others = choices(facts, sight)[2]

        def behind(room):
            found = [step(facts, sight, machine, builder, (room, 0), other) for other in others]
            return [(pair[0], scene) for scene, pair in found]

        met = list(dict.fromkeys(behind(0)))
        firsts = tuple(range(len(met)))
        moves = []
        for room, _ in met:
            met.extend(state for state in dict.fromkeys(behind(room)) if state not in met)
            moves.append(tuple(sorted({met.index(state) for state in behind(room)})))
        return None if len(met) > 8 else (tuple(scene for _, scene in met), firsts, tuple(moves))

    def test_systems(self):
        rng = random.Random(240)
        sizes = {}
        for _ in range(500):
            facts, sight, _, builder = random_case(rng, 4)
            expected = self.slow_system(facts, sight, builder)
            if expected is None:
                with self.assertRaises(TooLarge):
                    system_of(facts, sight, builder)
            else:
                found = system_of(facts, sight, builder)
                self.assertEqual(found, expected)
                self.assertIsNone(check_system(facts, found))
            size = None if expected is None else len(expected[0])
            sizes[size] = sizes.get(size, 0) + 1
        for size in (None, 1, 2, 3, 4, 8):
            self.assertGreater(sizes[size], 3)

    def test_runs_are_those_of_plays(self):
        rng = random.Random(241)
        for _ in range(60):
            facts, sight, _, builder = random_case(rng)
            try:
                system = system_of(facts, sight, builder)
            except TooLarge:
                continue
            others = choices(facts, sight)[2]
            for many in (1, 2, 3):
                found = {naive.run_of(system, track) for track in naive.tracks(system, many)}
                plays = set()
                for row in itertools.product(others, repeat=many):
                    play = Run(facts, sight, builder)
                    for choice in row:
                        play.take(choice)
                    plays.add(play.run())
                self.assertEqual(found, plays)

    def test_eight_and_nine_states(self):
        # The builder goes around through its rooms, whatever comes; the breaker has no facts.
        sight = (("on",), (), "builder", "often")
        for many in (1, 7, 8):
            builder = tuple(((("on",),), ((at + 1) % many,)) for at in range(many))
            found = system_of(("on",), sight, builder)
            self.assertEqual(found, (
                (("on",),) * many, (0,), tuple(((at + 1) % many,) for at in range(many)),
            ))
        builder = tuple(((("on",),), ((at + 1) % 9,)) for at in range(9))
        with self.assertRaises(TooLarge):
            system_of(("on",), sight, builder)
        # Rooms to which no play comes do not count.
        self.assertEqual(len(system_of(("on",), sight, ((((),), (0,)),) * 9)[0]), 1)


class RunTest(unittest.TestCase):
    def test_random_plays(self):
        rng = random.Random(242)
        for _ in range(200):
            facts, sight, machine, builder = random_case(rng)
            play = Run(facts, sight, builder)
            others = choices(facts, sight)[2]
            made = []
            for _ in range(12):
                pair, scenes = (0, 0), []
                for other in made:
                    scene, pair = step(facts, sight, machine, builder, pair, other)
                    scenes.append(scene)
                self.assertEqual((play.run(), play.room()), (tuple(scenes), pair[0]))
                self.assertEqual(play.now(), builder[pair[0]][0][0] if sight[2] == "builder" else None)
                if made and rng.random() < 0.3:
                    self.assertIsNone(play.back())
                    made.pop()
                else:
                    for wrong in (("y",), ("",), facts + facts):
                        with self.assertRaises(NotAllowed):
                            play.take(wrong)
                    made.append(rng.choice(others))
                    self.assertEqual(play.take(made[-1]), step(facts, sight, machine, builder, pair, made[-1])[0])
            for _ in made:
                play.back()
            for _ in range(2):
                with self.assertRaises(Missing):
                    play.back()
            self.assertEqual((play.run(), play.room()), ((), 0))

    def test_two_at_once(self):
        sight = (("on",), ("up",), "breaker", "always")
        builder = ((((), ("on",)), (0, 1)), ((("on",), ()), (1, 0)))
        one, other = Run(FACTS, sight, builder), Run(FACTS, sight, builder)
        self.assertEqual(one.take(("up",)), ("on", "up"))
        self.assertEqual((other.run(), other.room(), one.room()), ((), 0, 1))
        self.assertEqual(other.take(()), ())
        one.back()
        self.assertEqual((one.run(), other.run()), ((), ((),)))

    def test_choices_that_are_none(self):
        play = Run(FACTS, (("on",), ("up",), "builder", "always"), (((("on",),), (0, 0)),))
        for choice in (("on",), ("on", "up"), ("up", "up"), ("x",)):
            with self.assertRaises(NotAllowed):
                play.take(choice)
        self.assertEqual((play.now(), play.run()), (("on",), ()))

    def test_all_players_and_goals(self):
        for first in PLAYERS:
            for goal in GOALS:
                play = Run(FACTS, ((), (), first, goal), ((((),), (0,)),))
                self.assertEqual(play.now(), () if first == "builder" else None)
                self.assertEqual([play.take(("up",)), play.take(("on",))], [("up",), ("on",)])


if __name__ == "__main__":
    unittest.main()
