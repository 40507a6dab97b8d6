"""sayingtexts.py: [1.5] and its interface."""

import random
import unittest

from spansay import sayingtexts
from spansay.errors import BadForm
from spansay.sayingtexts import read_saying, saying_text
from tests import naive

FACTS = ("on", "up")
ON = ("fact", "on")
UP = ("fact", "up")
POINT = ("point",)


class PlainTextTest(unittest.TestCase):
    def test_example(self):
        saying = (
            "and", ("or", ("fact", "on"), ("point",)), ("some", "later", ("not", ("fact", "up"))),
        )
        self.assertEqual(saying_text(saying), "(on or point) and some later not up")

    def test_each_place_of_parentheses(self):
        both = ("and", ON, UP)
        one = ("or", ON, UP)
        for saying, text in (
            (ON, "on"), (POINT, "point"), (both, "on and up"), (one, "on or up"),
            (("and", one, POINT), "(on or up) and point"),
            (("and", POINT, one), "point and (on or up)"),
            (("and", both, POINT), "on and up and point"),
            (("and", POINT, both), "point and (on and up)"),
            (("or", one, POINT), "on or up or point"),
            (("or", POINT, one), "point or (on or up)"),
            (("or", both, POINT), "on and up or point"),
            (("or", POINT, both), "point or on and up"),
            (("not", both), "not (on and up)"), (("not", one), "not (on or up)"),
            (("not", ("not", ON)), "not not on"),
            (("some", "met", both), "some met (on and up)"),
            (("some", "met", one), "some met (on or up)"),
            (("all", "ends", one), "all ends (on or up)"),
            (("all", "ends", both), "all ends (on and up)"),
            (("not", ("some", "met", ("all", "ends", ON))), "not some met all ends on"),
            (("and", ("not", ON), ("some", "met", UP)), "not on and some met up"),
            (("or", ("or", both, one), both), "on and up or (on or up) or on and up"),
        ):
            self.assertEqual(saying_text(saying), text)
            self.assertEqual(read_saying(FACTS, text), saying)

    def test_reading_the_plain_text_returns_the_saying(self):
        rng = random.Random(11)
        for _ in range(1500):
            saying = naive.random_saying(rng, FACTS, rng.randint(1, 30))
            self.assertEqual(read_saying(FACTS, saying_text(saying)), saying)

    def test_the_longest_ones(self):
        facts = ("abcdefgh",)
        saying = ("fact", "abcdefgh")
        for _ in range(14):
            saying = ("or", ("fact", "abcdefgh"), saying)
        self.assertEqual(read_saying(facts, saying_text(saying)), saying)
        saying = POINT
        for _ in range(29):
            saying = ("some", "overlapped", saying)
        self.assertEqual(read_saying(facts, saying_text(saying)), saying)


class ReadingTest(unittest.TestCase):
    def assert_bad(self, text, facts=FACTS):
        with self.assertRaises(BadForm, msg=text) as caught:
            read_saying(facts, text)
        self.assertEqual(caught.exception.line, 1)

    def test_constants(self):
        self.assertEqual((sayingtexts.MAX_SAYING_TEXT, sayingtexts.MAX_GROUPS), (1000, 40))

    def test_examples(self):
        self.assertEqual(
            read_saying(("on", "up"), "all begins(some meets on or up)"),
            ("all", "begins", ("or", ("some", "meets", ("fact", "on")), ("fact", "up"))),
        )
        self.assert_bad("some on", ("on",))

    def test_rows_are_grouped_from_the_left(self):
        self.assertEqual(read_saying(FACTS, "on or up or point"), ("or", ("or", ON, UP), POINT))
        self.assertEqual(read_saying(FACTS, "on and up and on"), ("and", ("and", ON, UP), ON))
        self.assertEqual(
            read_saying(FACTS, "on or up and on or point"),
            ("or", ("or", ON, ("and", UP, ON)), POINT),
        )

    def test_not_some_and_all_take_one_single(self):
        self.assertEqual(read_saying(FACTS, "not on and up"), ("and", ("not", ON), UP))
        self.assertEqual(read_saying(FACTS, "some met on or up"), ("or", ("some", "met", ON), UP))
        self.assertEqual(
            read_saying(FACTS, "all met not some ends on and up"),
            ("and", ("all", "met", ("not", ("some", "ends", ON))), UP),
        )

    def test_parentheses_that_need_not_be(self):
        self.assertEqual(read_saying(FACTS, "((on))"), ON)
        self.assertEqual(read_saying(FACTS, "(on)and(up)"), ("and", ON, UP))
        self.assertEqual(read_saying(FACTS, "(on and up) and (point)"), ("and", ("and", ON, UP), POINT))

    def test_spaces(self):
        self.assertEqual(read_saying(FACTS, "  not   (  on   or up )  "), ("not", ("or", ON, UP)))
        self.assertEqual(read_saying(FACTS, "not(on)"), ("not", ON))
        self.assertEqual(read_saying(FACTS, "some met(on)"), ("some", "met", ON))
        self.assertEqual(read_saying(FACTS, "(on)or(up)"), ("or", ON, UP))

    def test_facts_that_begin_as_words_do(self):
        facts = ("noton", "pointon", "orup")
        self.assertEqual(read_saying(facts, "noton or orup"), ("or", ("fact", "noton"), ("fact", "orup")))
        self.assertEqual(read_saying(facts, "not pointon"), ("not", ("fact", "pointon")))

    def test_wrong_texts(self):
        wrong = [
            "", " ", "x", "On", "on up", "on or", "or on", "and", "on and", "and on", "not", "not and",
            "on not up", "some", "some met", "some met met on", "some on", "met on", "begins", "all",
            "all on", "all point on", "some begins", "(", ")", "()", "(on", "on)", "((on)", "(on))",
            "on ( up", ")on(", "on\n", "\non", "on\nor up", "on or\nup", "notx", "not,on", "on-up",
            "on|up", "1", "on1", "some Met on", "point point", "point(on)", "on()", "(or)", "not()",
            "onor up", "onorup", "not on)", "some(met) on", "some (met on)", "on or or up", "-",
        ]
        for text in wrong:
            self.assert_bad(text)

    def test_facts_are_those_that_are_meant(self):
        self.assert_bad("up", ("on",))
        self.assertEqual(read_saying(("x",), "x"), ("fact", "x"))

    def test_1000_and_1001_characters(self):
        self.assertEqual(read_saying(FACTS, "on" + " " * 998), ON)
        self.assert_bad("on" + " " * 999)
        self.assertEqual(read_saying(FACTS, " " * 998 + "on"), ON)
        self.assert_bad(" " * 999 + "on")

    def test_40_and_41_parentheses_within_one_another(self):
        self.assertEqual(read_saying(FACTS, "(" * 40 + "on" + ")" * 40), ON)
        self.assert_bad("(" * 41 + "on" + ")" * 41)
        many = " and ".join(["(" * 40 + "on" + ")" * 40] * 3)
        self.assertEqual(read_saying(FACTS, many), ("and", ("and", ON, ON), ON))
        self.assert_bad("(on) and " * 3 + "(" * 41 + "on" + ")" * 41)
        self.assert_bad("(" * 40 + "(on)" + ")" * 40)
        self.assert_bad("(" * 20 + "((on)) and " + "(" * 21 + "on" + ")" * 41)
        self.assert_bad("(" * 500 + ")" * 500)
        self.assert_bad("(" * 999 + ")")
        self.assert_bad(")" * 50 + "(" * 60 + "on")

    def test_30_and_31_nodes(self):
        self.assertEqual(read_saying(FACTS, "not " * 29 + "on")[0], "not")
        self.assert_bad("not " * 30 + "on")
        self.assertEqual(read_saying(FACTS, "on" + " or on" * 14)[0], "or")
        self.assert_bad("on" + " or on" * 15)
        self.assert_bad("not " * 249 + "on")
        self.assertEqual(read_saying(FACTS, "all met " * 29 + "on")[0], "all")
        self.assert_bad("all met " * 30 + "on")

    def test_both_at_once(self):
        deep = "not (" * 29 + "(" * 11 + "on" + ")" * 40
        saying = read_saying(FACTS, deep)
        self.assertEqual(saying_text(saying), "not " * 29 + "on")


if __name__ == "__main__":
    unittest.main()
