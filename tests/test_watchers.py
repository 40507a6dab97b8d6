"""watchers.py: [8.1] to [8.4]."""

import itertools
import random
import time
import unittest

from spansay.errors import Missing, NotAllowed, TooLarge
from spansay.least import machine_of
from spansay.sayingtexts import read_saying
from spansay.watchers import MAX_READ, MAX_WATCHED, Watcher
from tests import naive
from tests.test_takers import BEYOND_THE_BOUNDS, FACTS as THREE_FACTS

FACTS = ("on", "up")
ON, UP = ("fact", "on"), ("fact", "up")
EVERY = ("or", ("point",), ("not", ("point",)))
NONE = ("and", ("point",), ("not", ("point",)))


def rests_up_to(facts, most):
    return itertools.chain(*[naive.runs(facts, many) for many in range(most + 1)])


class Slow:
    """What a watcher tells, by plain search over rests of a few scenes."""

    def __init__(self, facts, sayings, run):
        self.facts = facts
        self.sayings = sayings
        self.run = run
        self.machines = [machine_of(facts, saying) for saying in sayings]

    def kept(self, k, rest):
        row = self.run + rest
        if len(row) <= 6:
            return len(row) > 0 and naive.kept(row, self.sayings[k])
        return naive.lets(self.machines[k], row)

    def broken(self, k, rest):
        return len(self.run + rest) > 0 and not self.kept(k, rest)

    def first(self, is_found, most):
        for rest in rests_up_to(self.facts, most):
            if is_found(rest):
                return rest
        return None

    def settled(self, k):
        """By the rooms that come, as [8.4] says."""
        letters, rows, lets = self.machines[k]
        found = set(rows[naive.room(self.machines[k], self.run)])
        for _ in rows:
            found |= {after for room in found for after in rows[room]}
        told = {room in lets for room in found}
        return 0 if len(told) == 2 else 1 if told == {True} else -1


class ExamplesTest(unittest.TestCase):
    def test_examples(self):
        watcher = Watcher(FACTS, (("some", "during", ON), ("all", "begins", UP)))
        self.assertEqual(watcher.rest_to_keep(0), ((), ("on",), ()))
        self.assertEqual((watcher.settled(0), watcher.rest_to_break(1)), (0, ((), ())))
        self.assertIsNone(watcher.read(("up",)))
        self.assertIsNone(watcher.read(("on",)))
        told = (watcher.keeps(0), watcher.settled(0), watcher.keeps(1), watcher.settled(1))
        self.assertEqual(told, (False, 1, True, -1))
        self.assertIs(watcher.keeps(0), False)
        self.assertIs(watcher.keeps(1), True)
        self.assertEqual((watcher.rest_to_part(0, 1), watcher.count_rests(0, 2)), ((), 16))
        self.assertEqual((MAX_READ, MAX_WATCHED), (5000, 6))


class ToldTest(unittest.TestCase):
    def compare(self, watcher, slow, most):
        """Compare all that is told with plain search."""
        many = len(slow.sayings)
        self.assertEqual((watcher.run(), watcher.many()), (slow.run, len(slow.run)))
        for k in range(many):
            if slow.run:
                self.assertIs(watcher.keeps(k), slow.kept(k, ()))
            self.assertEqual(watcher.settled(k), slow.settled(k))
            self.rest(watcher.rest_to_keep(k), slow.first(lambda rest: slow.kept(k, rest), most), most)
            self.rest(watcher.rest_to_break(k), slow.first(lambda rest: slow.broken(k, rest), most), most)
            for length in range(most):
                expected = sum(slow.kept(k, rest) for rest in naive.runs(slow.facts, length))
                self.assertEqual(watcher.count_rests(k, length), expected)
            for j in range(many):
                found = slow.first(lambda rest: slow.kept(k, rest) != slow.kept(j, rest), most)
                self.rest(watcher.rest_to_part(k, j), found, most)
        if slow.run:
            told = [slow.kept(k, ()) for k in range(many)]
            self.assertIs(watcher.at_one(), len(set(told)) == 1)

    def rest(self, found, expected, most):
        if expected is None:
            self.assertTrue(found is None or len(found) > most)
        else:
            self.assertEqual(found, expected)

    def test_random_sayings_and_runs(self):
        rng = random.Random(121)
        seen = set()
        for _ in range(40):
            facts = FACTS[:rng.randint(1, 2)]
            sayings = tuple(naive.random_saying(rng, facts, rng.randint(1, 7)) for _ in range(rng.randint(1, 3)))
            watcher = Watcher(facts, sayings)
            run = ()
            for _ in range(4):
                self.compare(watcher, Slow(facts, sayings, run), 5 - len(facts))
                seen |= {watcher.settled(k) for k in range(len(sayings))}
                scene = rng.choice(naive.scenes(facts))
                self.assertIsNone(watcher.read(scene))
                run += (scene,)
                if rng.random() < 0.3:
                    self.assertIsNone(watcher.back())
                    run = run[:-1]
        self.assertEqual(seen, {-1, 0, 1})

    def test_no_scene_yet(self):
        watcher = Watcher(("on",), (EVERY, NONE, ON))
        self.assertEqual((watcher.run(), watcher.many()), ((), 0))
        for k in range(3):
            with self.assertRaises(Missing):
                watcher.keeps(k)
        with self.assertRaises(Missing):
            watcher.at_one()
        with self.assertRaises(Missing):
            watcher.back()
        # The empty rest neither keeps nor breaks, and it parts nothing.
        self.assertEqual(watcher.rest_to_keep(0), ((),))
        self.assertEqual(watcher.rest_to_break(1), ((),))
        self.assertEqual(watcher.rest_to_part(0, 1), ((),))
        self.assertEqual([watcher.count_rests(k, 0) for k in range(3)], [0, 0, 0])
        self.assertEqual([watcher.settled(k) for k in range(3)], [1, -1, 0])

    def test_the_empty_rest(self):
        watcher = Watcher(("on",), (EVERY, NONE, ON))
        watcher.read(("on",))
        self.assertEqual((watcher.rest_to_keep(0), watcher.rest_to_keep(2)), ((), ()))
        self.assertEqual((watcher.rest_to_break(1), watcher.rest_to_break(2)), ((), ((),)))
        self.assertEqual((watcher.rest_to_part(0, 1), watcher.rest_to_part(0, 2)), ((), ((),)))
        self.assertEqual([watcher.count_rests(k, 0) for k in range(3)], [1, 0, 1])

    def test_where_there_is_no_rest(self):
        watcher = Watcher(("on",), (EVERY, NONE, ON, ("not", ON)))
        self.assertEqual((watcher.rest_to_break(0), watcher.rest_to_keep(1)), (None, None))
        self.assertIsNone(watcher.rest_to_part(2, 2))
        watcher.read(())
        self.assertEqual((watcher.rest_to_keep(2), watcher.rest_to_break(3)), (None, None))
        self.assertIsNone(watcher.rest_to_part(0, 3))
        self.assertEqual(watcher.rest_to_part(3, 1), ())

    def test_settled_though_the_run_so_far_is_otherwise(self):
        watcher = Watcher(("on",), (("point",), ("not", ("point",))))
        watcher.read(())
        self.assertEqual((watcher.keeps(0), watcher.settled(0)), (True, -1))
        self.assertEqual((watcher.keeps(1), watcher.settled(1)), (False, 1))
        self.assertEqual((watcher.rest_to_keep(0), watcher.rest_to_break(0)), ((), ((),)))

    def test_at_one(self):
        watcher = Watcher(("on",), (ON, ("some", "ends", ON), ("not", ("point",))))
        told = []
        for scene in ((), ("on",), ()):
            watcher.read(scene)
            told.append(watcher.at_one())
        self.assertEqual(told, [True, False, False])
        watcher = Watcher(("on",), (EVERY, EVERY))
        watcher.read(())
        self.assertIs(watcher.at_one(), True)

    def test_many_rests(self):
        watcher = Watcher(FACTS, (EVERY,))
        self.assertEqual(watcher.count_rests(0, 200), 4 ** 200)
        watcher.read(())
        self.assertEqual(watcher.count_rests(0, 200), 4 ** 200)
        self.assertEqual(watcher.count_rests(0, 1), 4)
        for many in (-1, 201, 10 ** 9):
            with self.assertRaises(NotAllowed):
                watcher.count_rests(0, many)


class LimitsTest(unittest.TestCase):
    def test_numbers_of_sayings(self):
        self.assertEqual(Watcher(("on",), (ON,) * 6).settled(5), 0)
        for many in (0, 7, 20):
            with self.assertRaises(NotAllowed):
                Watcher(("on",), (ON,) * many)

    def test_takers_that_are_too_large(self):
        many, _, _, text = BEYOND_THE_BOUNDS[0]
        saying = read_saying(THREE_FACTS, text)
        facts = THREE_FACTS[:many]
        for sayings in ((saying,), (ON, saying), (saying,) * 6):
            with self.assertRaises(TooLarge):
                Watcher(facts, sayings)
        with self.assertRaises(NotAllowed):
            Watcher(facts, (saying,) * 7)

    def test_scenes_that_are_none(self):
        watcher = Watcher(FACTS, (ON,))
        watcher.read(("on",))
        for scene in (("x",), ("up", "on"), ("on", "on"), ("on", "up", "x"), ("",), ("-",)):
            with self.assertRaises(NotAllowed):
                watcher.read(scene)
        self.assertEqual(watcher.run(), (("on",),))

    def test_an_index_that_there_is_not_ahead_of_all_else(self):
        for many_read in (0, 1):
            watcher = Watcher(FACTS, (ON, UP))
            for _ in range(many_read):
                watcher.read(())
            for k in (-1, 2, -2, 7):
                for call in (
                    lambda: watcher.keeps(k), lambda: watcher.settled(k), lambda: watcher.rest_to_keep(k),
                    lambda: watcher.rest_to_break(k), lambda: watcher.rest_to_part(k, 0),
                    lambda: watcher.rest_to_part(0, k), lambda: watcher.count_rests(k, 0),
                    lambda: watcher.count_rests(k, -1), lambda: watcher.count_rests(k, 201),
                ):
                    with self.assertRaises(Missing):
                        call()

    def test_five_thousand_scenes_and_one_more(self):
        watcher = Watcher(FACTS, (("some", "later", ON), ("all", "begins", UP)))
        scenes = [("up",), ("on", "up")]
        for at in range(MAX_READ):
            watcher.read(scenes[at % 2])
        for scene in ((), ("on",)):
            with self.assertRaises(TooLarge):
                watcher.read(scene)
        with self.assertRaises(NotAllowed):
            watcher.read(("x",))
        self.assertEqual((watcher.many(), len(watcher.run())), (5000, 5000))
        self.assertEqual((watcher.keeps(0), watcher.keeps(1)), (False, True))
        watcher.back()
        self.assertEqual(watcher.many(), 4999)
        watcher.read(())
        self.assertEqual((watcher.run()[-1], watcher.many()), ((), 5000))
        for _ in range(5000):
            watcher.back()
        with self.assertRaises(Missing):
            watcher.back()

    def test_time_does_not_grow_with_what_was_read(self):
        watcher = Watcher(FACTS, (("some", "during", ON), ("all", "begins", UP)))
        times = []
        for _ in range(5):
            start = time.perf_counter()
            for _ in range(1000):
                watcher.read(("up",))
                watcher.keeps(1)
                watcher.settled(0)
            times.append(time.perf_counter() - start)
        self.assertLess(min(times[2:]), 20 * max(min(times[:2]), 0.001))


class CopyTest(unittest.TestCase):
    def test_copies_do_not_touch_each_other(self):
        watcher = Watcher(FACTS, (("some", "during", ON), ("all", "begins", UP)))
        watcher.read(("on",))
        watcher.read(("up",))
        other = watcher.copy()
        self.assertIsInstance(other, Watcher)
        self.assertEqual((other.run(), other.many()), (watcher.run(), 2))
        for k in range(2):
            self.assertEqual((other.keeps(k), other.settled(k)), (watcher.keeps(k), watcher.settled(k)))
            self.assertEqual(other.rest_to_keep(k), watcher.rest_to_keep(k))
        with self.assertRaises(Missing):
            other.settled(2)
        other.read(("on",))
        self.assertEqual((other.many(), watcher.many()), (3, 2))
        watcher.back()
        watcher.back()
        self.assertEqual((other.run(), watcher.run()), ((("on",), ("up",), ("on",)), ()))
        third = watcher.copy()
        third.read(())
        self.assertEqual((watcher.many(), third.many(), third.copy().run()), (0, 1, ((),)))
        with self.assertRaises(NotAllowed):
            third.read(("x",))


if __name__ == "__main__":
    unittest.main()
