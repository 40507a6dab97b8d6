"""why.py: [3.1], [3.2] and its interface."""

import random
import unittest

from spansay import why
from spansay.errors import BadPaper, NotAllowed, TooLarge
from spansay.sayingtexts import read_saying
from spansay.why import judge_paper, paper_of
from tests import naive

ON = ("fact", "on")
POINT = ("point",)
RUN = (("on",), (), ("on",))
EMPTY = ((),) * 40
SIZE_3000 = "all begins not on and all ends all met not on and all around all begins not on"
SIZE_3001 = "all begun all met not on and all ends all later not on"
NO_STRETCHES = ((-1, 0), (0, -1), (1, 0), (0, 3), (3, 3), (2, 1), (5, 7))


def random_cases(seed, many, places=4):
    rng = random.Random(seed)
    facts = ("on", "up")
    for _ in range(many):
        saying = naive.random_saying(rng, facts, rng.randint(1, 8))
        run = tuple(rng.choice(naive.scenes(facts)) for _ in range(rng.randint(1, places)))
        for stretch in naive.stretches(len(run)):
            yield run, saying, stretch


def other_papers(run, saying, i, j, yes):
    """All papers for an answer, by the table of [3.1]."""
    word = saying[0]
    if word == "not":
        return other_papers(run, saying[1], i, j, not yes)
    if word in ("fact", "point"):
        return [()] if naive.told(run, saying, i, j) == yes else []
    if word in ("and", "or"):
        first, second = [other_papers(run, part, i, j, yes) for part in saying[1:]]
        if (word == "and") == yes:
            return [("both", p, q) for p in first for q in second]
        return [("one", 0, p) for p in first] + [("one", 1, q) for q in second]
    to = naive.reached(len(run), saying[1], i, j)
    inner = [other_papers(run, saying[2], *s, yes) for s in to]
    if (word == "all") == yes:
        rows = [()]
        for papers in inner:
            rows = [row + (p,) for row in rows for p in papers][:40]
        return [("each",) + row for row in rows]
    return [("take", s, p) for s, papers in zip(to, inner) for p in papers]


def spoilt(paper):
    """Values like a paper that differ from it in one place."""
    yield from ((), (paper,), paper + ((),), paper + (0,), "each", 0, "", ("each",), ("take",), ("one",))
    yield from (("both", paper, paper), ("one", 0, paper), ("one", 1, paper), ("take", (0, 0), paper))
    for at, part in enumerate(paper):
        if isinstance(part, tuple) and not (paper[0] == "take" and at == 1):
            values = list(spoilt(part))
        elif isinstance(part, int):
            values = [-1, 2, 1 - part, (), "0", (part,)]
        elif isinstance(part, tuple):
            i, j = part
            values = [(i, j + 1), (i + 1, j), (j, i), (i - 1, j), (i, j, 0), (i,), (), 0, "", part + part]
            values += [("i", j), (i, ()), ((i, j), (i, j)), (i, j - 1), (-1, -1), (99, 99)]
        else:
            values = ["both", "one", "each", "take", "", "x", 0, ()]
        for value in values:
            yield paper[:at] + (value,) + paper[at + 1:]
        yield paper[:at] + paper[at + 1:]


class PaperTest(unittest.TestCase):
    def test_examples(self):
        self.assertEqual(
            paper_of(RUN, ("some", "begins", ("not", ("fact", "on"))), 0, 2), (True, ("take", (0, 1), ())),
        )
        self.assertEqual(
            paper_of(RUN, ("all", "ends", ("or", ("fact", "on"), ("point",))), 0, 2),
            (False, ("take", (1, 2), ("both", (), ()))),
        )
        self.assertIsNone(
            judge_paper(RUN, ("not", ("some", "during", ("fact", "on"))), 0, 2, True, ("each", ())),
        )
        with self.assertRaises(BadPaper):
            judge_paper(RUN, ("point",), 0, 2, True, ())

    def test_each_kind_of_node_and_both_answers(self):
        for saying, stretch, expected in (
            (ON, (0, 0), (True, ())), (ON, (0, 1), (False, ())), (POINT, (1, 1), (True, ())),
            (POINT, (0, 1), (False, ())), (("not", ON), (1, 1), (True, ())),
            (("not", POINT), (1, 1), (False, ())),
            (("and", ON, POINT), (0, 0), (True, ("both", (), ()))),
            (("and", ON, POINT), (1, 1), (False, ("one", 0, ()))),
            (("and", POINT, ON), (1, 1), (False, ("one", 1, ()))),
            (("and", ON, POINT), (0, 1), (False, ("one", 0, ()))),
            (("or", ON, POINT), (0, 0), (True, ("one", 0, ()))),
            (("or", ON, POINT), (1, 1), (True, ("one", 1, ()))),
            (("or", ON, POINT), (0, 1), (False, ("both", (), ()))),
            (("some", "begins", ON), (0, 2), (True, ("take", (0, 0), ()))),
            (("some", "begins", ON), (1, 2), (False, ("each", ()))),
            (("some", "begins", ON), (1, 1), (False, ("each",))),
            (("all", "begins", ON), (0, 1), (True, ("each", ()))),
            (("all", "begins", ON), (0, 2), (False, ("take", (0, 1), ()))),
            (("all", "begins", ON), (2, 2), (True, ("each",))),
            (("not", ("or", ON, ("not", POINT))), (0, 0), (False, ("one", 0, ()))),
            (("not", ("and", ON, ("not", POINT))), (1, 1), (True, ("one", 0, ()))),
        ):
            found = paper_of(RUN, saying, *stretch)
            self.assertEqual(found, expected, (saying, stretch))
            self.assertIsInstance(found[0], bool)

    def test_against_the_slow_one(self):
        for run, saying, stretch in random_cases(71, 150):
            expected = naive.why(run, saying, *stretch)
            if naive.size(expected[1]) <= 3000:
                self.assertEqual(paper_of(run, saying, *stretch), expected, (run, saying, stretch))

    def test_each_way(self):
        run = (("on",), (), ("on",), ("on",), ())
        for way in naive.WAYS:
            for word in ("some", "all"):
                for part in (ON, ("not", POINT), (word, way, ("or", ON, POINT))):
                    for stretch in naive.stretches(5):
                        saying = (word, way, part)
                        yes, paper = paper_of(run, saying, *stretch)
                        self.assertEqual((yes, paper), naive.why(run, saying, *stretch))
                        self.assertIsNone(judge_paper(run, saying, *stretch, yes, paper))

    def test_no_stretches(self):
        for first, last in NO_STRETCHES:
            with self.assertRaises(NotAllowed):
                paper_of(RUN, ON, first, last)
            for yes in (True, False):
                for paper in ((), ("each",), "x"):
                    with self.assertRaises(NotAllowed):
                        judge_paper(RUN, ON, first, last, yes, paper)

    def test_sizes_of_3000_and_3001(self):
        self.assertEqual(why.MAX_PAPER, 3000)
        for wrap in (lambda s: s, lambda s: ("not", s), lambda s: ("not", ("not", s))):
            saying = wrap(read_saying(("on",), SIZE_3000))
            yes, paper = paper_of(EMPTY, saying, 5, 20)
            self.assertEqual(naive.size(paper), 3000)
            self.assertIs(yes, saying[0] != "not" or saying[1][0] == "not")
            saying = wrap(read_saying(("on",), SIZE_3001))
            with self.assertRaises(TooLarge):
                paper_of(EMPTY, saying, 5, 20)
            self.assertEqual(naive.size(naive.why_paper(EMPTY, saying, 5, 20, yes)), 3001)

    def test_not_allowed_comes_ahead_of_too_large(self):
        saying = read_saying(("on",), SIZE_3001)
        for first, last in ((20, 5), (-1, 3), (0, 40)):
            with self.assertRaises(NotAllowed):
                paper_of(EMPTY, saying, first, last)

    def test_far_too_large(self):
        saying = ("not", ON)
        for k in range(28):
            saying = ("all", ("met", "meets")[k % 2], saying)
        with self.assertRaises(TooLarge):
            paper_of(EMPTY, saying, 5, 20)


class JudgeTest(unittest.TestCase):
    def assert_bad(self, run, saying, stretch, yes, paper):
        with self.assertRaises(BadPaper):
            judge_paper(run, saying, *stretch, yes, paper)

    def test_just_the_papers_of_the_table_are_right(self):
        for run, saying, stretch in random_cases(72, 60, 3):
            for yes in (True, False):
                papers = other_papers(run, saying, *stretch, yes)[:60]
                self.assertEqual(bool(papers), naive.told(run, saying, *stretch) == yes)
                for paper in papers:
                    self.assertIsNone(judge_paper(run, saying, *stretch, yes, paper))
                    self.assert_bad(run, saying, stretch, not yes, paper)

    def test_other_right_papers(self):
        for saying, papers in (
            (("or", ON, POINT), [("one", 0, ()), ("one", 1, ())]),
            (("some", "meets", ("or", ON, POINT)), [("take", (0, 0), ("one", 1, ()))]),
        ):
            for paper in papers:
                self.assertIsNone(judge_paper(RUN, saying, 0, 0, True, paper))
        saying = ("some", "during", ("not", POINT))
        for taken in ((1, 2), (1, 3), (2, 3)):
            self.assertIsNone(judge_paper(((),) * 5, saying, 0, 4, True, ("take", taken, ())))
        for taken in ((0, 1), (1, 4), (1, 1), (3, 2), (2, 1)):
            self.assert_bad(((),) * 5, saying, (0, 4), True, ("take", taken, ()))

    def test_spoilt_at_each_place(self):
        for run, saying, stretch in random_cases(73, 40, 3):
            yes, paper = naive.why(run, saying, *stretch)
            right = None
            if naive.size(paper) > 40:
                continue
            for value in spoilt(paper):
                if value == paper:
                    continue
                if right is None:
                    right = other_papers(run, saying, *stretch, yes)
                if value in right:
                    self.assertIsNone(judge_paper(run, saying, *stretch, yes, value))
                elif len(right) < 40:
                    self.assert_bad(run, saying, stretch, yes, value)

    def test_values_of_any_kind(self):
        deep = ()
        for _ in range(198):
            deep = (deep,)
        named = "each"
        for _ in range(199):
            named = ("each", named)
        for value in ("", "x", 0, 1, -7, (), ((),), deep, ("each", deep), ("take", deep, ()), named,
                      ("one", deep, ()), ("one", "0", ()), ("both", deep, deep), (deep, deep, deep)):
            for saying in (("and", ON, ON), ("or", ON, ON), ("some", "during", ON), ("all", "during", ON)):
                for yes in (True, False):
                    if not (saying[1] == "during" and value == ("each", ())):
                        self.assert_bad(RUN, saying, (0, 2), yes, value)
            if value != ():
                self.assert_bad(RUN, ON, (0, 0), True, value)

    def test_papers_of_any_size(self):
        for text, wrong in ((SIZE_3000, ("each",)), (SIZE_3001, ())):
            saying = read_saying(("on",), text)
            paper = naive.why_paper(EMPTY, saying, 5, 20, True)
            self.assertIsNone(judge_paper(EMPTY, saying, 5, 20, True, paper))
            self.assertIsNone(judge_paper(EMPTY, ("not", saying), 5, 20, False, paper))
            self.assert_bad(EMPTY, saying, (5, 20), False, paper)
            self.assert_bad(EMPTY, saying, (5, 20), True, paper[:-1] + (wrong,))

    def test_one_paper_that_stands_very_often(self):
        saying = ("not", ON)
        for k in range(28):
            saying = ("all", ("met", "meets", "begins")[k % 3], saying)
        known = {}
        paper = shared_paper(saying, (5, 20), known)
        self.assertIsNone(judge_paper(EMPTY, saying, 5, 20, True, paper))
        self.assert_bad(EMPTY, saying, (5, 20), False, paper)
        self.assert_bad(EMPTY, saying, (5, 20), True, paper[:-1] + ("x",))

    def test_equal_papers_at_other_places(self):
        saying = ("all", "begins", ("or", ON, POINT))
        paper = ("each", ("one", 0, ()), ("one", 0, ()))
        self.assertIsNone(judge_paper((("on",), ("on",), ()), saying, 0, 2, True, paper))
        self.assert_bad((("on",), (), ()), saying, (0, 2), True, paper)


def shared_paper(saying, stretch, known):
    """The paper of `all` within `all`, in which equal papers are one and the same value."""
    if saying[0] == "not":
        return ()
    key = (naive.WAYS.index(saying[1]), len(str(saying)), stretch)
    if key not in known:
        to = naive.reached(40, saying[1], *stretch)
        known[key] = ("each",) + tuple(shared_paper(saying[2], s, known) for s in to)
    return known[key]


if __name__ == "__main__":
    unittest.main()
