"""tracks.py: [7.1] to [7.4]."""

import itertools
import random
import unittest

from spansay.errors import NotAllowed, TooLarge
from spansay.machines import check_machine, least_machine
from spansay.sayingtexts import read_saying
from spansay.tracks import holds_of, reader_of, ways_between
from tests import naive

FACTS = ("on", "up", "x")
SYSTEM = (((), ("on",)), (0,), ((0, 1), (1,)))
ON = ("fact", "on")
POINT = ("point",)
SYSTEMS = (
    SYSTEM,
    (((), ("on",)), (0, 1), ((), ())),
    ((("on",),), (0,), ((0,),)),
    (((), ("on",), ("on", "up")), (1,), ((1, 2), (0, 2), ())),
    (((), ("on",), ()), (0, 2), ((1,), (2,), (0,))),
    # A state that no track reaches, and one that leads nowhere.
    ((("up",), ("on",), ()), (0,), ((2,), (0, 1), ())),
)

EIGHT = ((("on",), ("on",), ("up",), ("on",), ("on",), ("on",), ("on",), ()), (2, 5, 7))
SIX = ((("x",), ("up", "x"), ("up",), ("on", "up", "x"), ("up", "x"), ("up", "x")), (3,))
EIGHT_TEXT = "all during on and not all during (point and on) or not some begins up and some during up"
SIX_TEXT = ("(some during (point and on) and not all begins x or not all during (point and up) and all begins up) "
            "and all overlapped x")
# Found by search: the most states of a part, the most rooms of the reader of a part, the system, and the saying.
WITHIN_THE_BOUNDS = (
    (400, 16, ((("on",), ("on",), ("up",), ("on", "up"), ("on", "up")), (3, 4),
               ((2, 4), (0, 1), (0, 2, 3), (0, 2), (0, 1, 3))), "not up or all during some during on or on"),
    (400, 15, ((("on",), (), ("on",), ("on",), ("on",), ("on",)), (0, 1, 4, 5),
               ((2, 5), (2, 3, 4, 5), (3, 5), (1, 4), (0, 5), (0, 4))),
     "not all overlapped not some during not (on or on)"),
    (-1, 60, EIGHT + (((5, 6), (0, 2, 4, 5, 6, 7), (0, 2, 3, 4, 7), (0, 2, 3, 6), (0, 1, 3, 5), (5, 6, 7),
                       (1, 4, 5, 6), (0, 5, 7)),), EIGHT_TEXT),
    (-1, 60, SIX + (((2, 4, 5), (0, 2), (1, 4, 5), (1, 4, 5), (0, 4), (0, 1, 3, 4, 5)),), SIX_TEXT),
)
BEYOND_THE_BOUNDS = (
    (401, 16, ((("on",), ("on", "up"), ("on", "up"), ("on",), ()), (3, 4),
               ((0, 1, 3), (0, 2, 3, 4), (1, 2, 3), (0, 1, 2, 4), (1, 3, 4))),
     "all around some ends all around some during some ends not on"),
    (401, 16, (((), (), (), (), ("on",), ("on",), ("on",)), (2,),
               ((0, 2, 5, 6), (1, 3, 4, 5), (2, 3, 4, 6), (2, 4), (0, 5), (1, 3, 4), (0, 6))),
     "some overlapped all overlaps (not on or all during on)"),
    (-1, 61, EIGHT + (((5, 6), (0, 2, 4, 5, 7), (0, 2, 3, 4, 6), (0, 2), (0, 1, 3, 5, 6, 7), (5, 6, 7),
                       (1, 2, 5, 7), (0, 5, 6, 7)),), EIGHT_TEXT),
    (-1, 61, SIX + (((2, 4, 5), (0, 2), (1, 2, 4, 5), (3, 4, 5), (0, 4), (0, 1, 2, 3, 5)),), SIX_TEXT),
)


def rows_up_to(many_states, most):
    for many in range(most + 1):
        yield from itertools.product(range(many_states), repeat=many)


def paths_up_to(system, most):
    return [path for many in range(1, most + 1) for path in naive.paths(system, many)]


class WaysTest(unittest.TestCase):
    def test_examples(self):
        self.assertIs(ways_between(SYSTEM, "overlaps", (0, 0), (0, 1)), True)
        self.assertIs(ways_between(SYSTEM, "begun", (0,), (0,)), False)
        self.assertIs(holds_of(SYSTEM, ("some", "begun", POINT), (0,)), False)
        self.assertIs(holds_of(SYSTEM, ("some", "later", ON), (0,)), True)
        self.assertEqual(reader_of(SYSTEM, ("some", "meets", ON)), ((0, 1), ((0, 1), (2, 1), (2, 2)), (1,)))

    def test_each_way_over_all_pairs_of_paths(self):
        rng = random.Random(101)
        systems = list(SYSTEMS) + [naive.random_system(rng, FACTS, rng.randint(2, 3)) for _ in range(12)]
        for system in systems:
            paths = paths_up_to(system, 4)
            if len(paths) > 60:
                paths = rng.sample(paths, 60)
            for way in naive.WAYS:
                for one in paths:
                    for other in paths:
                        expected = naive.path_leads(system, way, one, other)
                        self.assertIs(ways_between(system, way, one, other), expected, (system, way, one, other))

    def test_each_way_leads_somewhere_and_not_everywhere(self):
        paths = paths_up_to(SYSTEM, 4)
        for way in naive.WAYS:
            told = {ways_between(SYSTEM, way, one, other) for one in paths for other in paths}
            self.assertEqual(told, {True, False})

    def test_no_move_at_all(self):
        system = SYSTEMS[1]
        for way in naive.WAYS:
            self.assertIs(ways_between(system, way, (0,), (0,)), way in ("meets", "met"))
            self.assertIs(ways_between(system, way, (0,), (1,)), False)

    def test_rows_that_are_no_path(self):
        for row in ((), (2,), (-1,), (1, 0), (0, 1, 0), (0, 2)):
            for way in naive.WAYS:
                with self.assertRaises(NotAllowed):
                    ways_between(SYSTEM, way, row, (0,))
                with self.assertRaises(NotAllowed):
                    ways_between(SYSTEM, way, (0,), row)
            with self.assertRaises(NotAllowed):
                holds_of(SYSTEM, ON, row)


class ReaderTest(unittest.TestCase):
    def compare(self, system, saying, most):
        """Compare with [7.1] over all rows of up to so many states; readers of parts tell of far paths."""
        reader = reader_of(system, saying)
        check_machine(reader)
        self.assertEqual(reader[0], tuple(range(len(system[0]))))
        self.assertEqual(least_machine(reader), reader)
        paths = set(paths_up_to(system, most))
        for row in rows_up_to(len(system[0]), most):
            expected = row in paths and naive.path_holds(system, saying, row, reader_of)
            self.assertEqual(naive.lets(reader, row), expected, (system, saying, row))
            if row in paths:
                self.assertIs(holds_of(system, saying, row), expected)

    def test_each_form_and_way(self):
        parts = (ON, POINT, ("not", ON), ("and", ON, ("not", POINT)), ("or", ("not", ON), POINT))
        for system in SYSTEMS:
            for part in parts:
                self.compare(system, part, 4)
            for way in naive.WAYS:
                for word in ("some", "all"):
                    for part in parts[:4]:
                        self.compare(system, (word, way, part), 4)

    def test_against_all_paths_of_a_pool(self):
        # One way, and what it looks at is told by paths that are a little longer.
        rng = random.Random(102)
        for _ in range(60):
            system = naive.random_system(rng, FACTS[:2], rng.randint(1, 3), 0.4)
            part = rng.choice([ON, POINT, ("not", ON), ("and", ON, ("not", POINT)), ("and", POINT, ("fact", "up"))])
            pool = paths_up_to(system, 6)
            if len(pool) > 400:
                continue
            for way in naive.WAYS:
                for word in ("some", "all"):
                    saying = (word, way, part)
                    for path in [path for path in pool if len(path) <= 3]:
                        expected = naive.path_told(system, saying, path, pool)
                        self.assertIs(holds_of(system, saying, path), expected, (system, saying, path))

    def test_random_sayings(self):
        rng = random.Random(103)
        for _ in range(120):
            facts = FACTS[:rng.randint(1, 3)]
            system = naive.random_system(rng, facts, rng.randint(1, 3))
            self.compare(system, naive.random_saying(rng, facts, rng.randint(2, 9)), 4)

    def test_the_least_machine_by_another_way(self):
        # Here all states come of what the rows are, and not from one another.
        rng = random.Random(104)
        for _ in range(120):
            facts = FACTS[:rng.randint(1, 2)]
            system = naive.random_system(rng, facts, rng.randint(1, 5))
            saying = naive.random_saying(rng, facts, rng.randint(1, 7))
            try:
                expected = naive.readers_paper(system, saying)[-1][0]
            except naive.Large:
                with self.assertRaises(TooLarge):
                    reader_of(system, saying)
                continue
            self.assertEqual(reader_of(system, saying), expected)

    def test_states_that_no_track_reaches_count(self):
        system = SYSTEMS[5]
        self.assertTrue(holds_of(system, ("some", "ended", ("fact", "on")), (1,)))
        self.assertTrue(holds_of(system, ("some", "earlier", ON), (0,)))
        self.assertFalse(holds_of(system, ("some", "later", ON), (0,)))

    def test_long_paths(self):
        path = (0,) * 100 + (1,) * 100
        self.assertTrue(holds_of(SYSTEM, ("some", "during", ON), path))
        self.assertFalse(holds_of(SYSTEM, ("some", "begins", ON), path))


class BoundsTest(unittest.TestCase):
    def sizes(self, system, saying):
        """The most states of a part `some` or `all`, and the most rooms, worked out from what rows are."""
        lines = []
        most = 0
        for part, places in naive.parts(saying):
            lines.append(naive.path_line(system, part, [lines[k][0] for k in places], 500, 100))
            if part[0] in ("some", "all"):
                most = max(most, len(lines[-1][1]))
        return most, max(len(machine[1]) for machine, _ in lines)

    def test_within_the_bounds(self):
        for states, rooms, system, text in WITHIN_THE_BOUNDS:
            saying = read_saying(FACTS, text)
            found = self.sizes(system, saying)
            self.assertEqual(found, (found[0] if states < 0 else states, rooms))
            self.assertLessEqual(found[0], 400)
            self.assertEqual(reader_of(system, saying), naive.readers_paper(system, saying)[-1][0])

    def test_beyond_the_bounds(self):
        for states, rooms, system, text in BEYOND_THE_BOUNDS:
            saying = read_saying(FACTS, text)
            found = self.sizes(system, saying)
            self.assertEqual(found, (found[0] if states < 0 else states, rooms))
            with self.assertRaises(TooLarge):
                reader_of(system, saying)
            with self.assertRaises(TooLarge):
                holds_of(system, saying, (0,))
            # A part that is too large makes the whole too large, though that would be small.
            for whole in (("not", saying), ("and", saying, ("and", ON, ("not", ON))), ("some", "begins", saying)):
                with self.assertRaises(TooLarge):
                    reader_of(system, whole)

    def test_no_path_ahead_of_too_large(self):
        system, text = BEYOND_THE_BOUNDS[0][2:]
        with self.assertRaises(NotAllowed):
            holds_of(system, read_saying(FACTS, text), (9,))


if __name__ == "__main__":
    unittest.main()
