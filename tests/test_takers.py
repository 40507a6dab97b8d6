"""takers.py: [2.2] to [2.5], and taker_of."""

import itertools
import random
import unittest

from spansay.errors import TooLarge
from spansay.sayingtexts import read_saying
from spansay.takers import taker_of
from tests import naive

FACTS = ("on", "up", "x")
ON = ("fact", "on")
POINT = ("point",)

# Found by search: the most sets of a part, the most rooms of the taker of a part, and the saying.
WITHIN_THE_BOUNDS = (
    (2, 400, 26, "some overlapped not (all around (some begins not all overlapped not some meets some "
     "overlaps some overlapped on and (some begun all earlier on or some during up)) or not (some meets "
     "point and some ended not up))"),
    (3, 400, 60, "all begun not all overlapped (not some during (all earlier not not on and not (all ends "
     "(point or up) or all earlier up and all ends on)) and all overlapped all meets x)"),
    (3, 400, 26, "not some earlier not (some ended (some begins on and (not (some begun (on or some earlier "
     "(up or x)) or x) or (point or up))) or all overlapped all during not all ended some ended up and on)"),
    (2, 201, 60, "all ended (up or all overlaps (all during (up and point) and (not not not point and some "
     "overlapped some during not all later on) or on or up) or on and not all begins up)"),
    (1, 110, 60, "not some ends (some ended not all overlapped (all meets all during (point and point) or all "
     "during (on or (some earlier not some later some overlaps on or all ends some begun on))) or some begun "
     "all earlier all during point)"),
    (3, 44, 60, "all overlaps (up or all begun x) or some overlaps some ends (up and some overlapped up) and "
     "(up or all begins all overlaps not not (x or on))"),
    (2, 202, 60, "up and some meets on and not some earlier all around all around (all meets up or (all begins "
     "(on or all begins up) or all around all begins up and not all begun (up or up)))"),
    (1, 142, 60, "some met not some ends not some during some overlapped some ended (on or not all during all "
     "around all around all later (all overlaps (point or on) or some meets on))"),
)
BEYOND_THE_BOUNDS = (
    (2, 401, 53, "all overlaps not ((all begins some meets (some later not all later all begun all overlaps "
     "some earlier (all earlier (point and some begun some later some begun on) and some met up) and point) "
     "or on) and all begins (all later up or up))"),
    (3, 401, 51, "some during (on or some ended (all begun (not all ended on and (up or not all meets (on and "
     "not (x and some earlier up)))) or all later not x))"),
    (3, 401, 14, "some ends all meets not all overlapped some begun (on or all overlapped not some around (all "
     "overlaps (all earlier x or up or not (on or x or all later x)) or point))"),
    (3, 402, 24, "not up or not some met (some begins some begins x and not on or some ends some ends some "
     "during x or some around (up and on))"),
    (1, 122, 61, "all begun some ends some begun (some begins not (on or all during not not all ends (some "
     "overlapped some begun some overlaps some overlapped (on and all later not on and not all ended on) or "
     "point)) or point)"),
    (1, 110, 61, "not all ends all overlaps all during all later (all overlaps not some begun not all around "
     "(on or some around on) or some meets not (on or all met on)) or some ended (all overlaps on or point)"),
    (3, 42, 61, "some begins x and (up or (x or all overlapped (on or x))) or some met point and all during "
     "all later (all ends on or up)"),
    (2, 124, 61, "not some around some around (all around some ends up and (on or up) or some around not not "
     "some overlaps all overlaps on)"),
    (2, 83, 61, "all around all earlier on and some during some during (not not not (not not all overlapped up "
     "or some during point) or some around (all around up and on))"),
    (3, 260, 61, "some begins some ended not not (not some ended up and some around some during some earlier "
     "all meets x or not (on or x and up) and some meets on and not x)"),
)


def rows_up_to(letters, many):
    for length in range(many + 1):
        yield from itertools.product(letters, repeat=length)


class MeaningTest(unittest.TestCase):
    def compare_rows(self, facts, saying, many):
        """Compare the taker with the meaning over ALL rows of marks of up to so many places."""
        taker = taker_of(facts, saying)
        self.assertEqual(taker[0], naive.marks(facts))
        for row in rows_up_to(taker[0], many):
            expected = naive.told_by_marks(row, saying)
            self.assertEqual(naive.room(taker, row) in taker[2], expected, (saying, row))

    def compare_runs(self, facts, saying, many):
        """Compare the taker with the meaning over all marked runs of just so many places."""
        taker = taker_of(facts, saying)
        for run in naive.runs(facts, many):
            for stretch in naive.stretches(many):
                row = naive.marked(run, *stretch)
                expected = naive.told(run, saying, *stretch)
                self.assertEqual(naive.room(taker, row) in taker[2], expected, (saying, row))

    def test_each_form(self):
        for saying in (
            ON, POINT, ("not", ON), ("not", POINT), ("and", ON, POINT), ("or", ON, POINT),
            ("and", ("not", ON), ("not", POINT)), ("or", ("not", ON), POINT), ("not", ("not", ON)),
        ):
            self.compare_rows(("on",), saying, 5)
            self.compare_runs(("on",), saying, 5)
            self.compare_rows(("up", "on"), saying, 3)

    def test_each_way(self):
        for way in naive.WAYS:
            for word in ("some", "all"):
                for part in (ON, POINT, ("not", ON), ("and", ON, ("not", POINT))):
                    self.compare_rows(("on",), (word, way, part), 4)
                    self.compare_runs(("on",), (word, way, part), 5)

    def test_two_ways_within_one_another(self):
        rng = random.Random(41)
        for one in naive.WAYS:
            for other in naive.WAYS:
                words = rng.choice(["some", "all"]), rng.choice(["some", "all"])
                saying = (words[0], one, (words[1], other, ON))
                self.compare_runs(("on",), saying, 4)
                saying = (words[0], one, ("and", POINT, (words[1], other, ("not", ON))))
                self.compare_runs(("on",), saying, 4)

    def test_random_sayings(self):
        rng = random.Random(42)
        for _ in range(60):
            facts = FACTS[:rng.randint(1, 2)]
            saying = naive.random_saying(rng, facts, rng.randint(2, 9))
            self.compare_rows(facts, saying, 5 - len(facts))
            self.compare_runs(facts, saying, 6 - len(facts))

    def test_three_facts(self):
        rng = random.Random(43)
        for _ in range(12):
            saying = naive.random_saying(rng, FACTS, rng.randint(2, 8))
            self.compare_rows(FACTS, saying, 2)
            self.compare_runs(FACTS, saying, 3)


class LeastTest(unittest.TestCase):
    def test_the_taker_of_a_fact(self):
        moves = (
            (0, 1, 1, 0, 2, 1), (1, 1, 1, 1, 1, 1), (1, 1, 3, 1, 2, 3), (1, 1, 3, 1, 1, 3),
        )
        self.assertEqual(taker_of(("on",), ON), (naive.marks(("on",)), moves, (2, 3)))

    def test_it_is_the_least_machine_with_its_rooms_in_order(self):
        rng = random.Random(44)
        for nodes in range(1, 31):
            facts = FACTS[:rng.randint(1, 3)]
            taker = taker_of(facts, naive.random_saying(rng, facts, min(nodes, 14)))
            goods = [room in taker[2] for room in range(len(taker[1]))]
            self.assertEqual(naive.least(taker[0], taker[1], goods)[0], taker)

    def test_a_saying_that_never_holds(self):
        taker = taker_of(("on",), ("and", POINT, ("not", POINT)))
        self.assertEqual(taker, (naive.marks(("on",)), ((0,) * 6,), ()))

    def test_alike_sayings_have_one_taker(self):
        on_up = ("and", ON, ("fact", "up"))
        self.assertEqual(
            taker_of(FACTS, ("not", ("some", "met", ("not", on_up)))),
            taker_of(FACTS, ("all", "met", ("and", ("fact", "up"), ON))),
        )

    def test_against_the_slow_one(self):
        rng = random.Random(45)
        for _ in range(60):
            facts = FACTS[:rng.randint(1, 3)]
            saying = naive.random_saying(rng, facts, rng.randint(1, 20))
            self.assertEqual(taker_of(facts, saying), naive.paper(facts, saying)[-1][0])


class BoundsTest(unittest.TestCase):
    def test_400_sets_and_60_rooms_are_not_too_large(self):
        for many, sets, rooms, text in WITHIN_THE_BOUNDS:
            facts = FACTS[:many]
            saying = read_saying(facts, text)
            lines = naive.paper(facts, saying)
            self.assertEqual(sizes(saying, lines), (sets, rooms), text)
            self.assertEqual(taker_of(facts, saying), lines[-1][0], text)

    def test_401_sets_or_61_rooms_are(self):
        for many, _, _, text in BEYOND_THE_BOUNDS:
            facts = FACTS[:many]
            saying = read_saying(facts, text)
            with self.assertRaises(naive.Large, msg=text):
                naive.paper(facts, saying)
            with self.assertRaises(TooLarge, msg=text):
                taker_of(facts, saying)

    def test_a_part_that_is_too_large_within_others(self):
        never = ("and", POINT, ("not", POINT))
        for many, _, _, text in BEYOND_THE_BOUNDS:
            facts = FACTS[:many]
            large = read_saying(facts, text)
            for saying in (
                ("not", large), ("and", large, never), ("and", never, large), ("or", large, ON),
                ("or", ("not", never), large), ("some", "during", large), ("all", "met", large),
                ("all", "later", ("and", never, ("not", large))),
            ):
                with self.assertRaises(TooLarge, msg=text):
                    taker_of(facts, saying)

    def test_parts_that_are_small_while_the_whole_is_not(self):
        text = BEYOND_THE_BOUNDS[6][3]
        saying = read_saying(FACTS, text)
        self.assertEqual(saying[0], "or")
        for part in saying[1:]:
            self.assertLessEqual(len(taker_of(FACTS, part)[1]), 60)
        with self.assertRaises(TooLarge):
            taker_of(FACTS, saying)

    def test_the_whole_is_small_while_a_part_is_not(self):
        saying = read_saying(FACTS, BEYOND_THE_BOUNDS[6][3])
        with self.assertRaises(TooLarge):
            taker_of(FACTS, ("and", saying, ("not", saying)))

    def test_small_ones_within_others(self):
        many, _, _, text = WITHIN_THE_BOUNDS[0]
        facts = FACTS[:many]
        saying = read_saying(facts, text)
        for whole in (("not", saying), ("and", saying, POINT), ("or", POINT, saying)):
            self.assertEqual(taker_of(facts, whole), naive.paper(facts, whole)[-1][0])


def sizes(saying, lines):
    """The most sets of a part, and the most rooms of a machine, in a paper."""
    most = 0
    for (part, _), (_, table) in zip(naive.parts(saying), lines):
        if part[0] in ("some", "all"):
            most = max(most, len({state if part[0] == "some" else state[0] for state, _ in table}))
    return most, max(len(machine[1]) for machine, _ in lines)


if __name__ == "__main__":
    unittest.main()
