"""blocks.py: [2.2], [2.3] and its interface."""

import unittest

from spansay.blocks import blocks_of, marked, marks_of, may_end, next_blocks
from tests import naive


class MarksTest(unittest.TestCase):
    def test_marks(self):
        self.assertEqual(
            marks_of(("on",)),
            (((), 0), ((), 1), ((), 2), (("on",), 0), (("on",), 1), (("on",), 2)),
        )
        for facts in (("a",), ("b", "a"), ("on", "up", "x")):
            self.assertEqual(marks_of(facts), naive.marks(facts))
        self.assertEqual(len(marks_of(("on", "up", "x"))), 24)

    def test_marked_runs(self):
        self.assertEqual(marked(((), ("on",), ()), 1, 1), (((), 0), (("on",), 1), ((), 2)))
        self.assertEqual(marked(((),), 0, 0), (((), 1),))
        run = (("a",), ("b",), (), ("a", "b"))
        for stretch in naive.stretches(4):
            self.assertEqual(marked(run, *stretch), naive.marked(run, *stretch))


class BlocksTest(unittest.TestCase):
    def test_each_row_of_the_table(self):
        for way in naive.WAYS:
            self.assertEqual(blocks_of(way), tuple(naive.blocks(way)), way)

    def test_examples(self):
        self.assertEqual(
            blocks_of("begins"), ((0, 0, "any"), (1, 1, "more"), (1, 2, "more"), (2, 2, "any")),
        )
        self.assertEqual(next_blocks("meets", -1), [0, 1, 2])
        self.assertEqual(next_blocks("meets", 2), [3, 4])
        self.assertIs(may_end("meets", 2), True)
        self.assertIs(may_end("begins", 1), False)

    def test_where_places_may_stand(self):
        for way in naive.WAYS:
            many = len(naive.blocks(way))
            for at in range(-1, many):
                follow = [k for k in range(many) if naive.may_follow(way, at, k)]
                self.assertEqual(next_blocks(way, at), follow, (way, at))
                self.assertIs(may_end(way, at), naive.may_end(way, at), (way, at))

    def test_no_run_without_places(self):
        for way in naive.WAYS:
            self.assertIs(may_end(way, -1), False)

    def test_a_new_list(self):
        found = next_blocks("later", 0)
        found.append(9)
        self.assertEqual(next_blocks("later", 0), [0, 1])

    def test_pairs_of_zones_stand_in_the_blocks_where_the_way_leads(self):
        for many in range(1, 7):
            for one in naive.stretches(many):
                for other in naive.stretches(many):
                    pairs = list(zip(zones(many, one), zones(many, other)))
                    for way in naive.WAYS:
                        leads = naive.leads(way, *one, *other)
                        self.assertEqual(stand(way, pairs), leads, (way, one, other))


def zones(many, stretch):
    return [zone for _, zone in marked(((),) * many, *stretch)]


def stand(way, pairs):
    """Whether pairs of zones stand in the blocks of a way, by the program's functions."""
    at = {-1}
    for pair in pairs:
        at = {k for h in at for k in next_blocks(way, h) if blocks_of(way)[k][:2] == pair}
    return any(may_end(way, h) for h in at)


if __name__ == "__main__":
    unittest.main()
