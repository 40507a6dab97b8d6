"""keeps.py: [6.3], [6.4], [6.5]."""

import copy
import itertools
import random
import unittest

from spansay.errors import BadPaper, NotAllowed, TooLarge
from spansay.keeps import all_keep, count_tracks, first_own_run, judge_pairs, judge_track, pairs_of, some_keeps
from spansay.least import machine_of
from spansay.machines import MAX_LENGTH
from spansay.sayingtexts import read_saying
from spansay.systems import machine_of_runs
from tests import naive
from tests.test_systems import line_of
from tests.test_takers import BEYOND_THE_BOUNDS, FACTS as THREE_FACTS, WITHIN_THE_BOUNDS

ON = ("on",)
FACTS = ("on", "up")
SYSTEM = (((), ("on",)), (0,), ((0, 1), (1,)))
EVERY = ("or", ("point",), ("not", ("point",)))


def random_machine(rng, facts):
    many = rng.randint(1, 4)
    letters = tuple(naive.scenes(facts))
    rows = tuple(tuple(rng.randrange(many) for _ in letters) for _ in range(many))
    return (letters, rows, tuple(at for at in range(many) if rng.random() < 0.5))


def slow_pairs(system, machine):
    """The pairs of all tracks, by following moves until nothing new comes."""
    found = set()
    waiting = [(s, naive.room(machine, (system[0][s],))) for s in system[1]]
    while waiting:
        state, room = waiting.pop()
        if (state, room) not in found:
            found.add((state, room))
            for after in system[2][state]:
                waiting.append((after, machine[1][room][machine[0].index(system[0][after])]))
    return tuple(sorted(found))


class ExamplesTest(unittest.TestCase):
    def test_examples(self):
        on = ("fact", "on")
        found = all_keep(ON, SYSTEM, ("or", on, ("not", ("some", "begins", on))))
        machine = (((), ("on",)), ((1, 2), (1, 1), (3, 2), (3, 3)), (1, 2))
        self.assertEqual(found, ("all", machine, ((0, 1), (1, 1))))
        self.assertEqual(some_keeps(ON, SYSTEM, ("and", ("not", on), ("some", "ends", on)))[2], (0, 1))
        self.assertEqual(count_tracks(ON, SYSTEM, machine_of_runs(ON, SYSTEM), 4), 4)
        self.assertEqual(first_own_run(ON, SYSTEM, (((),), (0,), ((0,),))), ((), ("on",)))


class KeepTest(unittest.TestCase):
    def first(self, system, saying, is_kept, many=7):
        for track in naive.tracks_up_to(system, many):
            if naive.kept(naive.run_of(system, track), saying) == is_kept:
                return track
        return None

    def test_against_a_plain_search_over_tracks(self):
        rng = random.Random(95)
        words = []
        for _ in range(150):
            facts = FACTS[:rng.randint(1, 2)]
            system = naive.random_system(rng, facts, rng.randint(1, 3))
            saying = naive.random_saying(rng, facts, rng.randint(1, 7))
            found = all_keep(facts, system, saying)
            self.assertEqual(found[1], machine_of(facts, saying))
            self.compare(facts, system, found, self.first(system, saying, False), False, "all", "not")
            words.append(found[0])
            found = some_keeps(facts, system, saying)
            self.compare(facts, system, found, self.first(system, saying, True), True, "none", "some")
            words.append(found[0])
        for word in ("all", "not", "some", "none"):
            self.assertGreater(words.count(word), 10)

    def compare(self, facts, system, found, track, is_let, by_pairs, by_track):
        word, machine, shown = found
        if track is not None:
            self.assertEqual((word, shown), (by_track, track))
        if word == by_track:
            self.assertIsNone(judge_track(facts, system, machine, shown, is_let))
            if len(shown) <= 7:
                self.assertEqual(shown, track)
        else:
            self.assertEqual(word, by_pairs)
            self.assertEqual(shown, slow_pairs(system, machine))
            self.assertIsNone(judge_pairs(facts, system, machine, shown, not is_let))

    def test_the_first_track(self):
        # Fewer states come first, then the lesser state at the first place at which they differ.
        system = (((), (), ("on",), ("on",)), (0, 1), ((1, 3), (2,), (), ()))
        self.assertEqual(some_keeps(ON, system, ("some", "ends", ("fact", "on")))[2], (0, 3))
        system = (((), (), ("on",), ("on",)), (0, 1), ((2, 3), (2,), (2,), ()))
        self.assertEqual(some_keeps(ON, system, ("some", "ends", ("fact", "on")))[2], (0, 2))
        self.assertEqual(all_keep(ON, system, ("not", ("some", "ends", ("fact", "on"))))[2], (0, 2))
        self.assertEqual(all_keep(ON, system, ("fact", "on"))[2], (0,))

    def test_states_that_no_track_reaches(self):
        system = (((), ("on",), ("on",)), (0,), ((0,), (1, 2), ()))
        self.assertEqual(some_keeps(ON, system, ("some", "met", ("fact", "on")))[0], "none")
        self.assertEqual(all_keep(ON, system, ("not", ("fact", "on")))[2], ((0, 1),))

    def test_too_large(self):
        system = (((),), (0,), ((0,),))
        for many, _, _, text in BEYOND_THE_BOUNDS[:4]:
            saying = read_saying(THREE_FACTS, text)
            for call in (all_keep, some_keeps):
                with self.assertRaises(TooLarge):
                    call(THREE_FACTS[:many], system, saying)
        for many, _, _, text in WITHIN_THE_BOUNDS[:2]:
            saying = read_saying(THREE_FACTS, text)
            self.assertEqual(all_keep(THREE_FACTS[:many], system, saying)[1], machine_of(THREE_FACTS[:many], saying))


class PairsTest(unittest.TestCase):
    def test_pairs(self):
        rng = random.Random(96)
        for _ in range(100):
            facts = FACTS[:rng.randint(1, 2)]
            system = naive.random_system(rng, facts, rng.randint(1, 5))
            machine = random_machine(rng, facts)
            pairs = pairs_of(system, machine)
            self.assertEqual(pairs, slow_pairs(system, machine))
            self.assertEqual(list(pairs), sorted(set(pairs)))

    def test_right_pairs_and_spoilt_ones(self):
        rng = random.Random(97)
        counts = {True: 0, False: 0}
        while min(counts.values()) < 12:
            facts = FACTS[:rng.randint(1, 2)]
            system = naive.random_system(rng, facts, rng.randint(1, 4))
            machine = random_machine(rng, facts)
            pairs = pairs_of(system, machine)
            told = {room in machine[2] for _, room in pairs}
            for is_let in (True, False):
                if told != {is_let}:
                    self.bad(facts, system, machine, pairs, is_let)
                    continue
                counts[is_let] += 1
                self.assertIsNone(judge_pairs(facts, system, machine, pairs, is_let))
                self.bad(facts, system, machine, pairs, not is_let)
                # The document asks for no order, and not that each pair is there once.
                self.assertIsNone(judge_pairs(facts, system, machine, pairs[::-1], is_let))
                self.assertIsNone(judge_pairs(facts, system, machine, pairs + pairs[:1], is_let))
                for at in range(len(pairs)):
                    self.bad(facts, system, machine, pairs[:at] + pairs[at + 1:], is_let)
                for pair in ((-1, 0), (len(system[0]), 0), (0, -1), (0, len(machine[1])), (99, 99)):
                    self.bad(facts, system, machine, pairs + (pair,), is_let)
                self.bad(facts, system, machine, (), is_let)
                self.all_sets(facts, system, machine, is_let)

    def all_sets(self, facts, system, machine, is_let):
        """Whatever pairs there are, they show it exactly if [6.4] says so."""
        every = list(itertools.product(range(len(system[0])), range(len(machine[1]))))
        if len(every) > 6:
            return
        for many in range(len(every) + 1):
            for pairs in itertools.combinations(every, many):
                firsts = {(s, naive.room(machine, (system[0][s],))) for s in system[1]}
                behind = {
                    (after, machine[1][room][machine[0].index(system[0][after])])
                    for state, room in pairs for after in system[2][state]
                }
                is_right = firsts | behind <= set(pairs) and {room in machine[2] for _, room in pairs} == {is_let}
                if is_right:
                    self.assertIsNone(judge_pairs(facts, system, machine, pairs, is_let))
                else:
                    self.bad(facts, system, machine, pairs, is_let)

    def bad(self, facts, system, machine, pairs, is_let):
        with self.assertRaises(BadPaper):
            judge_pairs(facts, system, machine, pairs, is_let)

    def test_pairs_of_no_track_may_be_there(self):
        machine = (((), ("on",)), ((0, 1), (0, 1)), (0,))
        system = (((), ("on",), ()), (0,), ((0,), (2,), (2,)))
        self.assertIsNone(judge_pairs(ON, system, machine, ((0, 0),), True))
        self.assertIsNone(judge_pairs(ON, system, machine, ((0, 0), (2, 0)), True))
        self.assertIsNone(judge_pairs(ON, system, machine, ((0, 0), (1, 0), (2, 0)), True))
        # What is there has to go on, and to let by, too.
        self.bad(ON, system, machine, ((0, 0), (1, 0)), True)
        self.bad(ON, system, machine, ((0, 0), (1, 1), (2, 0)), True)


class TrackTest(unittest.TestCase):
    def test_tracks(self):
        rng = random.Random(98)
        for _ in range(60):
            facts = FACTS[:rng.randint(1, 2)]
            system = naive.random_system(rng, facts, rng.randint(1, 3))
            machine = random_machine(rng, facts)
            for many in range(4):
                tracks = naive.tracks(system, many) if many else []
                for row in itertools.product(range(-1, len(system[0]) + 1), repeat=many):
                    for is_let in (True, False):
                        if row in tracks and naive.lets(machine, naive.run_of(system, row)) == is_let:
                            self.assertIsNone(judge_track(facts, system, machine, row, is_let))
                        else:
                            with self.assertRaises(BadPaper):
                                judge_track(facts, system, machine, row, is_let)


class CountTest(unittest.TestCase):
    def test_against_a_plain_count(self):
        rng = random.Random(99)
        for _ in range(60):
            facts = FACTS[:rng.randint(1, 2)]
            system = naive.random_system(rng, facts, rng.randint(1, 4))
            machine = random_machine(rng, facts)
            for many in range(1, 6):
                tracks = naive.tracks(system, many)
                expected = sum(naive.lets(machine, naive.run_of(system, track)) for track in tracks)
                self.assertEqual(count_tracks(facts, system, machine, many), expected)

    def test_bounds(self):
        every = machine_of(ON, EVERY)
        system = (((), ("on",)), (0, 1), ((0, 1), (0, 1)))
        self.assertEqual(count_tracks(ON, system, every, 1), 2)
        self.assertEqual(count_tracks(ON, system, every, MAX_LENGTH), 2 ** 200)
        self.assertEqual(count_tracks(ON, SYSTEM, every, 200), 200)
        for many in (0, -1, 201, 1000):
            with self.assertRaises(NotAllowed):
                count_tracks(ON, system, every, many)


class OwnRunTest(unittest.TestCase):
    def test_both_ways(self):
        rng = random.Random(100)
        none = 0
        for _ in range(150):
            facts = FACTS[:rng.randint(1, 2)]
            first, second = [naive.random_system(rng, facts, rng.randint(1, 3)) for _ in range(2)]
            for one, other in ((first, second), (second, first)):
                found = first_own_run(facts, one, other)
                expected = None
                for many in range(1, 6):
                    ones = {naive.run_of(one, track) for track in naive.tracks(one, many)}
                    others = {naive.run_of(other, track) for track in naive.tracks(other, many)}
                    own = [run for run in naive.runs(facts, many) if run in ones - others]
                    if own:
                        expected = own[0]
                        break
                if expected is None:
                    none += 1
                    self.assertTrue(found is None or len(found) > 5)
                else:
                    self.assertEqual(found, expected)
            self.assertIsNone(first_own_run(facts, first, copy.deepcopy(first)))
        self.assertGreater(none, 5)

    def test_systems_alike(self):
        more = (((), ("on",), ()), (0, 2), ((0, 1), (1,), (0, 1)))
        self.assertIsNone(first_own_run(ON, SYSTEM, more))
        self.assertIsNone(first_own_run(ON, more, SYSTEM))

    def test_too_large(self):
        large, small = line_of(59), line_of(58)
        self.assertIsNone(first_own_run(ON, small, small))
        for first, second in ((large, small), (small, large), (large, large)):
            with self.assertRaises(TooLarge):
                first_own_run(ON, first, second)


class NotAllowedTest(unittest.TestCase):
    def test_letters_that_are_not_the_scenes(self):
        for letters in ((("on",), ()), ((), ("on",), ("x",)), ((), ("on", "x")), ((), 0)):
            machine = (letters, ((0,) * len(letters),), (0,))
            for call in (
                lambda: judge_pairs(ON, SYSTEM, machine, (), True),
                lambda: judge_pairs(ON, SYSTEM, machine, ((9, 9),), False),
                lambda: judge_track(ON, SYSTEM, machine, (), True),
                lambda: judge_track(ON, SYSTEM, machine, (9,), False),
                lambda: count_tracks(ON, SYSTEM, machine, 4),
                lambda: count_tracks(ON, SYSTEM, machine, 0),
            ):
                with self.assertRaises(NotAllowed):
                    call()


if __name__ == "__main__":
    unittest.main()
