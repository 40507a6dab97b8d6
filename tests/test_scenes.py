"""scenes.py: [1.2] and its interface."""

import unittest

from spansay import scenes
from spansay.errors import BadForm, NotAllowed
from spansay.scenes import (
    RESERVED, WAYS, check_facts, check_run, is_word, read_run, run_text, scenes_of,
)
from tests import naive

FACTS = ("on", "up", "x")


class ConstantsTest(unittest.TestCase):
    def test_numbers(self):
        found = (scenes.MAX_WORD, scenes.MAX_FACTS, scenes.MAX_RUN, scenes.MAX_RUN_TEXT)
        self.assertEqual(found, (8, 3, 40, 2000))

    def test_words_in_the_order_of_the_document(self):
        words = (
            "and or not some all point begins begun ends ended during around "
            "meets met later earlier overlaps overlapped"
        ).split()
        self.assertEqual(RESERVED, tuple(words))
        self.assertEqual(WAYS, tuple(words[6:]))


class WordsTest(unittest.TestCase):
    def test_one_to_eight_small_letters(self):
        for text in ("a", "z", "abcdefgh", "on", "pointy", "an", "mets"):
            self.assertIs(is_word(text), True, text)

    def test_no_words(self):
        texts = ["", "abcdefghi", "overlapped", "On", "o n", " on", "on ", "o1", "o-n", "o\n", "\n"]
        for text in texts + ["a_b", "-", "(", "`", "{", "@", "["]:
            self.assertIs(is_word(text), False, text)

    def test_reserved_words(self):
        for text in RESERVED:
            self.assertIs(is_word(text), False, text)


class FactsTest(unittest.TestCase):
    def test_facts(self):
        for facts in (("a",), ("on", "up"), ("up", "on"), ("a", "b", "c"), ("abcdefgh",)):
            self.assertIsNone(check_facts(facts))

    def test_no_facts(self):
        wrong = [
            (), ("a", "b", "c", "d"), ("a", "a"), ("a", "b", "a"), ("point",), ("a", "some"),
            ("A",), ("",), ("a", ""), ("abcdefghi",), ("a b",), ("a", "b", "met"),
        ]
        for facts in wrong:
            with self.assertRaises(NotAllowed, msg=facts):
                check_facts(facts)


class RunsTest(unittest.TestCase):
    def test_runs(self):
        for many in (1, 2, 39, 40):
            self.assertIsNone(check_run(FACTS, (("on", "x"),) * many))
        for scene in naive.scenes(FACTS):
            self.assertIsNone(check_run(FACTS, (scene,)))

    def test_no_runs(self):
        wrong = [
            (), ((),) * 41, (("up", "on"),), (("on", "on"),), (("down",),), ((), ("x", "up")),
            (("on", "up", "x", "x"),), (("on",), ("",)), (("on up",),), (("-",),),
        ]
        for run in wrong:
            with self.assertRaises(NotAllowed, msg=run):
                check_run(FACTS, run)

    def test_order_is_that_of_the_facts(self):
        self.assertIsNone(check_run(("up", "on"), (("up", "on"),)))
        with self.assertRaises(NotAllowed):
            check_run(("up", "on"), (("on", "up"),))


class ScenesTest(unittest.TestCase):
    def test_example(self):
        self.assertEqual(scenes_of(("on", "up")), [(), ("on",), ("up",), ("on", "up")])

    def test_all_in_the_order_of_their_numbers(self):
        for facts in (("a",), ("b", "a"), FACTS):
            self.assertEqual(scenes_of(facts), naive.scenes(facts))

    def test_a_new_list(self):
        found = scenes_of(FACTS)
        found.append(("no",))
        found[0] = None
        self.assertEqual(scenes_of(FACTS), naive.scenes(FACTS))


class TextsTest(unittest.TestCase):
    def test_examples(self):
        self.assertEqual(read_run(("on", "up"), " on up; -;up"), (("on", "up"), (), ("up",)))
        self.assertEqual(run_text((("on",), ())), "on ; -")

    def test_texts(self):
        self.assertEqual(run_text(((),)), "-")
        self.assertEqual(run_text((("on", "up", "x"), ("x",))), "on up x ; x")

    def test_reading_a_text_returns_the_run(self):
        for many in (1, 2, 3):
            for run in naive.runs(("on", "up"), many):
                self.assertEqual(read_run(("on", "up"), run_text(run)), run)
        long = (("on", "up", "x"), ()) * 20
        self.assertEqual(read_run(FACTS, run_text(long)), long)

    def test_more_spaces(self):
        run = (("on", "up"), (), ("x",))
        texts = ["on up ; - ; x", "on up;-;x", "   on    up   ;   -   ;   x   ", "on up;  -  ;x "]
        for text in texts:
            self.assertEqual(read_run(FACTS, text), run, text)

    def assert_bad(self, facts, text):
        with self.assertRaises(BadForm, msg=text) as caught:
            read_run(facts, text)
        self.assertEqual(caught.exception.line, 1)

    def test_no_texts_of_runs(self):
        wrong = [
            "", " ", ";", "on;", ";on", "on;;up", "on; ;up", "up on", "on on", "down", "on -",
            "- on", "--", "- -", "on\n", "on\n;up", "\non", "on,up", "onup", "On", "on up x x",
            "on up x down", "on : up", "-on", "on;-;-;", "(on)", "point",
        ]
        for text in wrong:
            self.assert_bad(FACTS, text)
        self.assert_bad(("up", "on"), "on up")

    def test_2000_and_2001_characters(self):
        self.assertEqual(read_run(FACTS, "on" + " " * 1998), (("on",),))
        self.assertEqual(read_run(FACTS, " " * 1998 + "on"), (("on",),))
        self.assert_bad(FACTS, "on" + " " * 1999)
        self.assert_bad(FACTS, " " * 1999 + "on")

    def test_40_and_41_scenes(self):
        self.assertEqual(read_run(FACTS, ";".join(["-"] * 40)), ((),) * 40)
        self.assert_bad(FACTS, ";".join(["-"] * 41))


if __name__ == "__main__":
    unittest.main()
