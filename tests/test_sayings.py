"""sayings.py: [1.4] and its interface."""

import random
import unittest

from spansay import sayings
from spansay.errors import NotAllowed
from spansay.sayings import check_saying, count_nodes, depth_of, ways_in
from tests import naive

FACTS = ("on", "up")
ON = ("fact", "on")
POINT = ("point",)


def nots(many, inner=POINT):
    for _ in range(many):
        inner = ("not", inner)
    return inner


class CheckTest(unittest.TestCase):
    def assert_no_saying(self, value, facts=FACTS):
        with self.assertRaises(NotAllowed):
            check_saying(facts, value)

    def test_sayings_of_each_form(self):
        for saying in (ON, ("fact", "up"), POINT, ("not", ON), ("and", ON, POINT), ("or", ON, ON)):
            self.assertIsNone(check_saying(FACTS, saying))
        for way in naive.WAYS:
            self.assertIsNone(check_saying(FACTS, ("some", way, ON)))
            self.assertIsNone(check_saying(FACTS, ("all", way, ("not", ON))))

    def test_random_sayings(self):
        rng = random.Random(5)
        for nodes in range(1, 31):
            self.assertIsNone(check_saying(FACTS, naive.random_saying(rng, FACTS, nodes)))

    def test_no_sayings(self):
        wrong = [
            "on", "point", "", (), ("on",), ("fact",), ("fact", "x"), ("fact", "on", "on"),
            ("fact", "point"), ("fact", ON), ("fact", ("on",)), ("fact", ()), ("point", "on"),
            ("point", POINT), ("point", ()), ("not",), ("not", "on"), ("not", ON, ON), ("not", ()),
            ("and",), ("and", ON), ("and", ON, ON, ON), ("and", ON, "up"), ("or", "on", ON),
            ("or", ON), ("some", "begins"), ("some", ON), ("some", "on", ON), ("some", ON, ON),
            ("some", ("begins",), ON), ("some", "begins", ON, ON), ("some", "begins", "on"),
            ("all", "start", ON), ("all", "", ON), ("all", "begins", ()), ("begins", ON),
            ("xor", ON, ON), (ON,), (ON, ON), ((), ON), ("", ON), (("not",), ON), ("Not", ON),
            ("not", ("not", ("fact", "down"))), ("and", ON, ("or", POINT, ("some", "met", "on"))),
            ("not ", ON), ("not\n", ON), ("some", "begins ", ON),
        ]
        for value in wrong:
            self.assert_no_saying(value)

    def test_facts_are_those_that_are_meant(self):
        self.assertIsNone(check_saying(("x",), ("fact", "x")))
        self.assert_no_saying(ON, ("x",))

    def test_30_and_31_nodes(self):
        self.assertIsNone(check_saying(FACTS, nots(29)))
        self.assert_no_saying(nots(30))
        tree = ON
        for _ in range(14):
            tree = ("and", tree, POINT)
        self.assertIsNone(check_saying(FACTS, ("not", tree)))
        self.assert_no_saying(("not", ("not", tree)))
        self.assert_no_saying(("or", POINT, tree))

    def test_values_nested_200_deep(self):
        self.assert_no_saying(nots(199))
        value = "on"
        for _ in range(200):
            value = (value,)
        self.assert_no_saying(value)
        self.assert_no_saying(("fact", value[0]))
        self.assert_no_saying(("some", value[0][0], ON))
        self.assert_no_saying((value[0], ON))

    def test_one_value_that_stands_very_often(self):
        both = ON
        heads = ("on",)
        for _ in range(198):
            both = ("and", both, both)
            heads = (heads, heads)
        self.assert_no_saying(both)
        self.assert_no_saying(heads)
        self.assert_no_saying(("fact", heads))
        self.assert_no_saying(("all", heads, ON))
        self.assert_no_saying((heads, ON, ON))
        self.assert_no_saying(("not", ("or", ON, heads)))


class CountsTest(unittest.TestCase):
    def test_constant(self):
        self.assertEqual(sayings.MAX_NODES, 30)

    def test_example(self):
        inner = ("some", "meets", ("fact", "on"))
        saying = ("some", "during", ("and", ("point",), ("not", inner)))
        self.assertEqual((depth_of(saying), ways_in(saying)), (2, ("during", "meets")))
        self.assertEqual(count_nodes(saying), 6)

    def test_nodes_count_as_often_as_they_stand(self):
        self.assertEqual(count_nodes(ON), 1)
        self.assertEqual(count_nodes(POINT), 1)
        self.assertEqual(count_nodes(("and", ON, ON)), 3)
        self.assertEqual(count_nodes(("all", "met", ("not", ON))), 3)
        rng = random.Random(6)
        for nodes in range(1, 31):
            self.assertEqual(count_nodes(naive.random_saying(rng, FACTS, nodes)), nodes)

    def test_depth(self):
        some = ("some", "met", ON)
        for saying, depth in (
            (ON, 0), (POINT, 0), (("not", ON), 0), (("and", ON, ON), 0), (some, 1),
            (("not", some), 1), (("and", ON, some), 1), (("or", ("all", "met", some), some), 2),
            (("all", "later", ("or", some, POINT)), 2), (("or", some, ("all", "ends", some)), 2),
        ):
            self.assertEqual(depth_of(saying), depth, saying)

    def test_ways_in_their_order_and_once(self):
        self.assertEqual(ways_in(("not", ON)), ())
        saying = POINT
        for way in naive.WAYS:
            saying = ("all", way, ("some", way, saying))
        self.assertEqual(ways_in(saying), naive.WAYS)
        two = ("or", ("some", "overlapped", ON), ("all", "begins", ON))
        self.assertEqual(ways_in(two), ("begins", "overlapped"))

    def test_a_fact_may_be_called_as_no_way_is(self):
        self.assertEqual(ways_in(("fact", "begin")), ())


if __name__ == "__main__":
    unittest.main()
