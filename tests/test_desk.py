"""desk.py: [9.4], [9.5]."""

import random
import re
import unittest
from fractions import Fraction

from spansay import desk
from spansay.classes import class_of
from spansay.desk import run_script
from spansay.errors import NotAllowed, TooLarge
from spansay.games import solve
from spansay.keeps import all_keep, some_keeps
from spansay.least import are_alike, first_kept, first_parting, machine_of
from spansay.near import distance, first_nearest
from spansay.readings import first_told
from spansay.sayingtexts import read_saying, saying_text
from spansay.scenes import run_text
from spansay.watchers import Watcher
from tests import naive
from tests.test_takers import BEYOND_THE_BOUNDS

THREE = "facts on up x"
LARGE = BEYOND_THE_BOUNDS[2][3]
# Two states: not on, for as long as it likes, and then on for ever.
START = "facts on\nadd on\nmove 0 0\nmove 0 1\nmove 1 1\n"
EVERY = "point or not point"
NEVER = "point and not point"

NUMBER = "(0|[1-9][0-9]{0,6})"
SCENE = "( (-|[a-z]+))+"
FORMS = [re.compile(form.replace("N", NUMBER).replace("S", SCENE)) for form in (
    "facts( [a-z]+)+", "addS", "scene NS", "(first|plain|drop|let) N", "(move|stop) N N", "undo|kept|states",
    "(keep|all|some|least|run|near|watch|branch) .*", "(alike|parted) [^|]*[|].*", "class N( [a-z]+)+", "chance N .*",
    "game [a-z]+ [a-z]+S[|].*", "(holds|why) N N .*",
)]
RIGHT = (
    "facts on", "facts on up", "add on", "add -", "add on up", "add - on", "scene 0 on", "scene 0 -", "scene 1 on up",
    "first 0", "plain 0", "drop 0", "let 1", "move 0 0", "stop 0 1", "undo", "kept", "states", "keep on", "keep ",
    "keep  on", "all on", "all ", "some on or point", "some ", "least on", "least ", "run on;-", "run ", "run  on ; - ",
    "near on", "near ", "watch on", "watch ", "branch on", "branch ", "alike on|on", "alike |", "alike on|", "alike |on",
    "alike on|on|on", "parted on|point", "parted |", "parted  on | on ", "class 0 begins", "class 9 begins ends",
    "class 0 x", "chance 1 on", "chance 0 ", "game always builder on|on", "game x y -|", "game a b c d e|f|g",
    "game always builder - on|on", "holds 0 0 on", "holds 0 1 ", "why 0 0 on", "why 3 4  point",
)


def answers(script):
    return run_script(START + script)[5:]


def said(rng, facts, nodes):
    return saying_text(naive.random_saying(rng, facts, nodes))


class ScriptTest(unittest.TestCase):
    def test_examples(self):
        self.assertEqual(
            run_script(
                "states\nfacts on\nadd on\nmove 0 1\nkeep not on\nmove 1 1\nfirst 1\nall some ends on\nrun -;on;-\n"
                "why 0 2 some begins not on\nkept\nup"
            ),
            ["none", "ok", "1", "ok", "1", "ok", "broken 1 : on", "no : -", "ok", "yes 2", "1", "bad"],
        )
        self.assertEqual(
            run_script(
                "facts on\nadd on\nmove 0 0\nmove 0 1\nrun -;-\nnear some ends on\nwatch some during on\nclass 0 begins\n"
                "branch not on\nchance 2 some ends on\ngame always builder on|on"
            ),
            ["ok", "1", "ok", "ok", "ok", "1 : - ; on", "open", "2", "yes", "1/2", "builder"],
        )

    def test_lines(self):
        self.assertEqual(run_script(""), [""])
        self.assertEqual(run_script("\n"), ["", ""])
        self.assertEqual(run_script("\nfacts on\n\nstates\n"), ["", "ok", "", "1", ""])
        self.assertEqual(run_script(" "), ["bad"])

    def test_numbers_of_lines(self):
        self.assertEqual((desk.MAX_SCRIPT, desk.MAX_LINES), (4000, 60))
        self.assertEqual(run_script("\n" * 59), [""] * 60)
        self.assertEqual(run_script("facts on\n" + "add -\n" * 7 + "states\n" * 51 + "states"), (
            ["ok"] + [str(n) for n in range(1, 8)] + ["8"] * 52
        ))
        for many in (61, 62, 200):
            with self.assertRaises(NotAllowed):
                run_script("\n" * (many - 1))
            with self.assertRaises(NotAllowed):
                run_script("\n".join(["states"] * many))

    def test_numbers_of_characters(self):
        for many in (4000, 3999):
            self.assertEqual(run_script("a" * many), ["bad"])
            self.assertEqual(run_script("facts on\n" + "k" * (many - 9)), ["ok", "bad"])
        for many in (4001, 5000):
            with self.assertRaises(NotAllowed):
                run_script("a" * many)
            with self.assertRaises(NotAllowed):
                run_script("\n" + "a" * (many - 1))

    def test_a_script_begins_anew(self):
        self.assertEqual(run_script("facts on\nstates"), ["ok", "1"])
        self.assertEqual(run_script("states"), ["none"])

    def test_a_returned_list_may_be_changed(self):
        run_script("facts on").clear()
        self.assertEqual(run_script("facts on"), ["ok"])


class FormsTest(unittest.TestCase):
    def is_right(self, line):
        return line == "" or any(form.fullmatch(line) for form in FORMS)

    def check(self, line):
        """Compare with the forms, with a store and without one."""
        alone, behind = run_script(line), answers(line)
        self.assertEqual((len(alone), len(behind)), (1, 1))
        right = self.is_right(line)
        self.assertEqual(behind == ["bad"], not right, line)
        if not right:
            self.assertEqual(alone, ["bad"], line)
        elif line and not line.startswith("facts "):
            self.assertEqual(alone, ["none"], line)
        return right

    def test_right_lines(self):
        words = set()
        for line in RIGHT:
            self.assertTrue(self.check(line), line)
            words.add(line.split(" ")[0])
        self.assertEqual(len(words), 27)

    def test_a_word_more_or_less_a_space_more_or_less(self):
        counts = {}
        for line in RIGHT:
            words = line.split(" ")
            changed = [line + " ", " " + line, line + " on", line + " 0", line + " -", line + "|", line + "|on", line + "x"]
            for k in range(len(words)):
                changed.append(" ".join(words[:k] + words[k + 1:]))
                changed.append(" ".join(words[:k] + ["", *words[k:]]))
                changed.append(" ".join(words[:k] + ["on", *words[k:]]))
                changed.append(" ".join(words[:k] + ["0", *words[k:]]))
                changed.append(" ".join(words[:k] + words[k].split("|") + words[k + 1:]))
                for word in ("-", "0", "00", "01", "-1", "+1", "1.0", "on0", "On", "ON", "o-n", "--", "on-", "|", "(", "", "_",
                             "9999999", "10000000", "99999999", "1000000", "0000000", "12 3", "one", "x", "on;", "a" * 30):
                    changed.append(" ".join(words[:k] + [word] + words[k + 1:]))
            for other in changed:
                right = self.check(other)
                counts[right] = counts.get(right, 0) + 1
        self.assertGreater(min(counts.values()), 500)

    def test_lines_that_are_bad(self):
        for line in (
            "facts", "facts ", "facts  on", "facts on ", "facts On", "facts on1", "facts -", "facts on -", "add", "add ",
            "add  on", "add on ", "add 0", "add on,up", "add --", "scene", "scene 0", "scene 0 ", "scene on", "scene 0  on",
            "scene x on", "scene 01 on", "scene -1 on", "first", "first ", "first on", "first 0 0", "first 00", "plain -",
            "plain 12345678", "move 0", "move 0 ", "move 0  1", "move 0 1 2", "move 0 on", "stop 1", "stop 0 -", "drop",
            "drop 1 ", "let", "let one", "undo 1", "undo ", "keep", "kept 1", "kept ", "states 1", "states ", "State", "all",
            "some", "least", "alike", "alike on", "alike on on", "parted", "parted on", "run", "near", "watch", "branch",
            "class", "class 0", "class 0 ", "class begins", "class 0 Begins", "class 0 begins ", "class 0 0", "class 0 -",
            "chance", "chance 1", "chance on", "chance 01 on", "chance 1.5 on", "game", "game always", "game always builder",
            "game always builder|on", "game always builder |on", "game always builder on", "game always builder on |on",
            "game always builder on", "game always builder  on|on", "game always -|on", "game - builder on|on",
            "game always builder On|on", "game always  builder on|on", "game|on", "game always builder on on", "holds",
            "holds 0", "holds 0 0", "holds 0 on", "holds on", "holds 0 01 on", "why", "why 0 0", "why 0", "why 0 0x on",
            "on", "up", "FACTS on", "facts\ton", " states", "states\t", "chance 10000000 on", "first 10000000",
            "scene 10000000 on", "holds 10000000 0 on", "class 10000000 begins", "fact on", "drops 0", "?", "|", "-", "0",
        ):
            self.assertFalse(self.check(line), line)

    def test_the_greatest_numbers(self):
        self.assertEqual(answers("first 9999999\nmove 0 9999999\nlet 9999999\ndrop 1000000"), ["missing"] * 4)
        self.assertEqual(answers("first 10000000\nlet 10000000\nfirst 09"), ["bad"] * 3)
        self.assertEqual(answers("chance 9999999 on\nclass 9999999 begins\nrun on\nholds 0 9999999 on"), [
            "refused", "refused", "ok", "refused",
        ])

    def test_random_lines(self):
        rng = random.Random(194)
        counts = {True: 0, False: 0}
        for _ in range(3000):
            line = rng.choice(RIGHT)
            for _ in range(rng.randint(1, 2)):
                at = rng.randint(0, len(line))
                line = line[:at] + rng.choice(["", " ", "|", "0", "a", "-", "9", "  "]) + line[at + rng.choice([0, 0, 1]):]
            counts[self.check(line)] += 1
        self.assertGreater(min(counts.values()), 300)


class NoneTest(unittest.TestCase):
    def test_none_ahead_of_all_but_the_form(self):
        for line in RIGHT:
            if not line.startswith("facts"):
                self.assertEqual(run_script(line + "\n\n" + line), ["none", "", "none"])
        lines = ("keep (", "chance 0 (", "class 9 x", "scene 9 zz", "game x y z|(", "run (", "alike (|(")
        self.assertEqual(run_script("\n".join(lines)), ["none"] * len(lines))

    def test_refused_facts_leave_no_store(self):
        self.assertEqual(run_script("facts on on\nstates\nfacts and\nkept\nfacts on\nstates"), [
            "refused", "none", "refused", "none", "ok", "1",
        ])


class StoreTest(unittest.TestCase):
    def test_facts(self):
        for line in (
            "facts on on", "facts and", "facts begins", "facts abcdefghi", "facts a b c d", "facts on up on", "facts on point",
        ):
            self.assertEqual(run_script(line), ["refused"])
        for line in ("facts abcdefgh", "facts a b c", "facts up on", "facts x"):
            self.assertEqual(run_script(line + "\nstates\nkept"), ["ok", "1", "-"])

    def test_a_new_store(self):
        # One state, which is the first one, without facts and moves.
        script = "facts on\nstates\nall not on\nall point\nsome on\nbranch point\nundo\nkept"
        self.assertEqual(run_script(script), ["ok", "1", "yes", "yes", "no", "yes", "missing", "-"])

    def test_a_new_store_forgets_all(self):
        script = "keep point or not point\nrun on\nfacts on\nkept\nstates\nundo\nholds 0 0 on\nkeep not on"
        self.assertEqual(answers(script), ["1", "ok", "ok", "-", "1", "missing", "missing", "1"])

    def test_refused_facts_leave_the_store_and_the_run(self):
        script = "keep point or not point\nrun on\nfacts on on\nfacts x y z w\nkept\nstates\nholds 0 0 on\nundo"
        self.assertEqual(answers(script), ["1", "ok", "refused", "refused", "1", "2", "yes", "ok"])

    def test_add(self):
        lines = "facts on up\nadd on\nadd -\nadd on up\nadd up on\nadd - on\nadd - -\nadd on -\nadd x\nadd on on\nstates"
        self.assertEqual(run_script(lines), ["ok", "1", "2", "3"] + ["refused"] * 6 + ["4"])
        lines = "facts on\n" + "add -\n" * 8 + "add x\nstates"
        self.assertEqual(run_script(lines), ["ok"] + [str(n) for n in range(1, 8)] + ["large", "refused", "8"])

    def test_the_scenes_of_states(self):
        script = "facts on up\nadd up\nadd on up\nadd -\nmove 0 1\nmove 1 2\nmove 2 3\nsome some ends on\nsome some ends up"
        self.assertEqual(run_script(script)[7:], ["yes : - ; up ; on up", "yes : - ; up"])
        script += "\nall point\nbranch some begins point or point\nbranch not on\nbranch not some ends on\nsome some ends not up"
        self.assertEqual(run_script(script)[9:], ["no : - ; up", "yes", "yes", "no : 0 1 2", "yes : - ; up ; on up ; -"])

    def test_scene(self):
        script = "scene 0 on\nsome on\nscene 0 -\nscene 1 up\nscene 1 on on\nscene 1 - on\nscene 2 on\nscene 2 up\nstates"
        self.assertEqual(answers(script), [
            "ok", "yes : on", "ok", "refused", "refused", "refused", "missing", "missing", "2",
        ])
        script = "keep not on\nscene 0 on\nscene 0 -\nkeep some begins not on or point\nscene 0 on"
        self.assertEqual(answers(script), ["1", "broken 1 : on", "ok", "2", "broken 1 : on"])

    def test_broken(self):
        script = "facts on up\nadd up\nkeep not on\nkeep not up\nscene 0 on\nscene 0 up\nscene 0 on up\nmove 0 1\nfirst 1\nkept"
        self.assertEqual(run_script(script), [
            "ok", "1", "1", "2", "broken 1 : on", "broken 2 : up", "broken 1 : on up", "ok", "broken 2 : up", "1 2",
        ])
        # A longer run, with a text of several scenes; the first track whose run breaks the least number.
        script = "facts on\nadd on\nadd -\nkeep all ends not on\nmove 0 2\nmove 2 1\nstop 2 1\nmove 0 1\nundo\nmove 2 1"
        self.assertEqual(run_script(script), [
            "ok", "1", "2", "1", "ok", "broken 1 : - ; - ; on", "ok", "broken 1 : - ; on", "ok", "broken 1 : - ; - ; on",
        ])

    def test_first_and_plain(self):
        self.assertEqual(answers("plain 0\nfirst 1\nplain 0\nsome not on\nplain 1\nfirst 2\nplain 2"), [
            "refused", "ok", "ok", "no", "refused", "missing", "missing",
        ])
        self.assertEqual(answers("first 1\nsome on\nfirst 1\nplain 1\nplain 1\nsome on"), [
            "ok", "yes : on", "ok", "ok", "ok", "no",
        ])

    def test_moves(self):
        self.assertEqual(answers("stop 0 1\nsome some ends on\nmove 0 1\nsome some ends on\nmove 2 0\nstop 0 2\nmove 0 2"), [
            "ok", "no", "ok", "yes : - ; on", "missing", "missing", "missing",
        ])
        self.assertEqual(answers("stop 0 0\nstop 0 0\nsome all begins not point"), ["ok", "ok", "yes : -"])

    def test_drop(self):
        self.assertEqual(answers("drop 0\ndrop 2\ndrop 1\nstates\ndrop 1\nundo\nstates\nfirst 1\ndrop 0\nstates\nsome on"), [
            "refused", "missing", "ok", "1", "missing", "ok", "2", "ok", "ok", "1", "yes : on",
        ])

    def test_keep_and_let(self):
        script = "keep " + EVERY + "\nkeep " + EVERY + "\nkept\nlet 1\nkept\nlet 1\nlet 0\nlet 3\nkeep " + EVERY + "\nkept"
        self.assertEqual(answers(script), ["1", "2", "1 2", "ok", "2", "missing", "missing", "missing", "3", "2 3"])
        script = ("keep " + EVERY + "\n") * 7 + "kept\nkeep on or\nkeep on"
        self.assertEqual(answers(script), ["1", "2", "3", "4", "5", "6", "large", "1 2 3 4 5 6", "form", "large"])
        script = THREE + "\nkeep " + LARGE + "\nkept\nkeep on\nkeep not on"
        self.assertEqual(run_script(script), ["ok", "large", "-", "broken 1 : -", "1"])

    def test_undo(self):
        script = "undo\n" * 4 + "states\nundo\nadd -\nkeep " + EVERY + "\nundo\nkeep " + EVERY + "\nkept"
        self.assertEqual(answers(script), ["ok"] * 4 + ["1", "missing", "1", "1", "ok", "1", "1"])

    def test_refused_lines_change_nothing(self):
        wrong = (
            "plain 0", "drop 0", "scene 9 on", "scene 0 x", "scene 0 on", "move 0 9", "stop 9 9", "first 1", "drop 5", "let 9",
            "keep on", "keep (", "add x", "facts a a", "run x", "run ", "x", "move 0", "game always builder x|on", "chance 0 on",
        )
        script = "keep point or not on or some ends on\nkeep some met not on\nrun on;-\n"
        shown = "\nkept\nstates\nall not on\nsome on\nbranch not on\nholds 0 0 on\nundo\nkept\nundo\nkept"
        expected = answers(script + shown[1:])
        for line in wrong:
            found = answers(script + line + shown)
            self.assertIn(found[3].split(" ")[0], ("refused", "missing", "broken", "form", "large", "bad"), line)
            self.assertEqual(found[:3] + found[4:], expected, line)


class SayingsTest(unittest.TestCase):
    def test_texts_are_read_ahead_of_all_else(self):
        wrong = ("", " ", "on on", "(on", "on)", "some on", "x", "On", "on|on", "some begins", "not", "on;", "0", "on and")
        for text in wrong:
            lines = [
                "keep " + text, "all " + text, "some " + text, "least " + text, "near " + text, "watch " + text,
                "branch " + text, "chance 1 " + text, "chance 0 " + text, "chance 201 " + text, "holds 0 0 " + text,
                "holds 9 3 " + text, "why 0 0 " + text, "why 9 3 " + text, "game never builder x|" + text,
                "game always builder on|" + text, "alike on|" + text, "parted on|" + text,
            ]
            if "|" not in text:
                lines += ["alike " + text + "|on", "parted " + text + "|on", "alike " + text + "|" + text]
            for line in lines:
                self.assertEqual(answers(line), ["form"], line)
                self.assertEqual(answers("run on;on\n" + line), ["ok", "form"], line)
        # Ahead of a taker that is too large, too.
        for line in ("alike " + LARGE + "|(", "parted " + LARGE + "|(", "alike (|" + LARGE):
            self.assertEqual(run_script(THREE + "\n" + line), ["ok", "form"])

    def test_spaces_around_sayings(self):
        script = "all  not on or   on \nsome on or not on \nalike  on | on \nrun  on ;  - \nholds 0 0  on \nleast   on"
        self.assertEqual(answers(script), ["yes", "yes : -", "yes", "ok", "yes", "on"])

    def test_too_large(self):
        for line in (
            "keep L", "all L", "some L", "least L", "alike L|on", "alike on|L", "parted L|on", "parted on|L", "chance 3 L",
            "game always builder on|L",
        ):
            self.assertEqual(run_script(THREE + "\n" + line.replace("L", LARGE)), ["ok", "large"], line)
        for line in ("near L", "watch L"):
            script = THREE + "\n" + line.replace("L", LARGE)
            self.assertEqual(run_script(script), ["ok", "missing"])
            self.assertEqual(run_script(THREE + "\nrun on\n" + line.replace("L", LARGE))[-1], "large")
        # Plain readings are never too large.
        self.assertIn(run_script(THREE + "\nrun on;up\nholds 0 1 " + LARGE)[-1], ("yes", "no"))

    def test_which_error_is_first(self):
        large = LARGE
        for script, expected in (
            ("chance 0 " + large, "refused"), ("chance 201 " + large, "refused"), ("chance 200 " + large, "large"),
            ("game never builder on|" + large, "refused"), ("game always nobody on|" + large, "refused"),
            ("game always builder up on|" + large, "refused"), ("class 7 begins", "refused"), ("class 0 ends begins", "refused"),
            ("class 0 begins", "missing"), ("class 6 begins", "missing"), ("holds 3 0 on", "missing"),
            ("why 3 0 on", "missing"), ("near " + NEVER, "missing"), ("watch " + large, "missing"),
        ):
            self.assertEqual(run_script(THREE + "\n" + script), ["ok", expected], script)

    def test_all_and_some(self):
        rng = random.Random(195)
        counts = {}
        for _ in range(150):
            system, script = self.random_store(rng)
            saying = naive.random_saying(rng, ("on", "up"), rng.randint(1, 6))
            word, _, track = all_keep(("on", "up"), system, saying)
            expected = ["yes" if word == "all" else "no : " + run_text(naive.run_of(system, track))]
            word, _, track = some_keeps(("on", "up"), system, saying)
            expected.append("yes : " + run_text(naive.run_of(system, track)) if word == "some" else "no")
            track = first_told(system, saying, False)
            expected.append("yes" if track is None else "no : " + " ".join(str(state) for state in track))
            text = saying_text(saying)
            found = run_script(script + f"all {text}\nsome {text}\nbranch {text}")[-3:]
            self.assertEqual(found, expected)
            for k, answer in enumerate(found):
                counts[k, answer.split(" ")[0]] = counts.get((k, answer.split(" ")[0]), 0) + 1
        self.assertEqual(len(counts), 6)
        self.assertGreater(min(counts.values()), 10)

    def random_store(self, rng):
        """A random system over two facts, and the script that makes it."""
        system = naive.random_system(rng, ("on", "up"), rng.randint(1, 4))
        lines = ["facts on up"]
        for state, scene in enumerate(system[0]):
            text = " ".join(scene) or "-"
            lines.append(f"scene 0 {text}" if state == 0 else f"add {text}")
        lines += [f"first {state}" for state in system[1]]
        lines += ["plain 0"] if 0 not in system[1] else []
        lines += [f"move {state} {after}" for state, row in enumerate(system[2]) for after in row]
        return system, "\n".join(lines) + "\n"

    def test_least_alike_and_parted(self):
        rng = random.Random(196)
        facts = ("on", "up")
        counts = {}
        for _ in range(150):
            one, other = [naive.random_saying(rng, facts, rng.randint(1, 5)) for _ in range(2)]
            if rng.random() < 0.3:
                other = ("not", ("not", one))
            first, parting = first_kept(facts, one), first_parting(facts, one, other)
            expected = [
                "none" if first is None else run_text(first), "yes" if are_alike(facts, one, other) else "no",
                "none" if parting is None else run_text(parting),
            ]
            texts = saying_text(one), saying_text(other)
            script = "facts on up\nleast {0}\nalike {0}|{1}\nparted {0}|{1}".format(*texts)
            self.assertEqual(run_script(script)[1:], expected)
            for k, answer in enumerate(expected):
                counts[k, answer] = counts.get((k, answer), 0) + 1
        for key in ((0, "none"), (1, "yes"), (1, "no"), (2, "none")):
            self.assertGreater(counts[key], 5)

    def test_chances(self):
        rng = random.Random(197)
        facts = ("on", "up")
        seen = set()
        for _ in range(300):
            system, script = self.random_store(rng)
            saying = naive.random_saying(rng, facts, rng.randint(1, 7))
            many = rng.randint(1, 5)
            chance = self.slow_chance(system, saying, many)
            expected = f"{chance.numerator}/{chance.denominator}"
            self.assertEqual(run_script(script + f"chance {many} {saying_text(saying)}")[-1], expected)
            seen.add(expected)
        self.assertIn("0/1", seen)
        self.assertIn("1/1", seen)
        self.assertGreater(len(seen), 9)
        self.assertEqual(answers("chance 200 some ends on\nchance 201 on\nchance 0 on\nchance 1 on"), [
            f"{2 ** 199 - 1}/{2 ** 199}", "refused", "refused", "0/1",
        ])

    def slow_chance(self, system, saying, many):
        scenes, firsts, moves = system
        total = Fraction(0)
        waiting = [((state,), Fraction(1, len(firsts))) for state in firsts]
        while waiting:
            path, chance = waiting.pop()
            if len(path) == many:
                total += chance if naive.kept(naive.run_of(system, path), saying) else 0
                continue
            row = moves[path[-1]] or (path[-1],)
            waiting.extend((path + (after,), chance / len(row)) for after in row)
        return total

    def test_too_many_pairs_for_a_chance(self):
        # Seven states by turns with the first one, and a machine that counts places up to some number.
        lines = ["facts on"] + ["add -"] * 7
        lines += [f"move 0 {state}\nmove {state} 0" for state in range(1, 8)]
        script = "\n".join(lines) + "\nchance 20 "
        self.assertEqual(run_script(script + "some begins " * 12 + "point")[-1], "1/1")
        self.assertEqual(run_script(script + "some begins " * 14 + "point")[-1], "large")
        self.assertEqual(run_script(script.replace("20", "0") + "some begins " * 14 + "point")[-1], "refused")

    def test_games(self):
        rng = random.Random(198)
        facts = ("on", "up")
        seen = set()
        for _ in range(100):
            own = tuple(fact for fact in facts if rng.random() < 0.5)
            first, goal = rng.choice(("builder", "breaker")), rng.choice(("always", "once", "often", "lastly"))
            saying = naive.random_saying(rng, facts, rng.randint(1, 6))
            expected = solve(facts, (own, first, goal), saying)[0]
            script = f"facts on up\ngame {goal} {first} {' '.join(own) or '-'}|{saying_text(saying)}"
            self.assertEqual(run_script(script), ["ok", expected])
            seen.add((goal, first, own, expected))
        self.assertGreater(len(seen), 25)
        for line in (
            "game never builder on|on", "game always seeker on|on", "game builder always on|on", "game always builder up on|on",
            "game always builder on on|on", "game always builder x|on", "game always builder - on|on", "game always builder - -|on",
            "game always builder on -|on",
        ):
            self.assertEqual(run_script("facts on up\n" + line), ["ok", "refused"], line)
        self.assertEqual(run_script("facts on up\ngame always builder -|on or not on|on"), ["ok", "form"])
        self.assertEqual(run_script("facts on up\ngame once builder on up| on "), ["ok", "builder"])


class RunTest(unittest.TestCase):
    def test_runs(self):
        self.assertEqual(answers("run on\nholds 0 0 on\nrun -;-\nholds 0 0 on\nholds 0 1 point"), [
            "ok", "yes", "ok", "no", "no",
        ])
        for text in ("", " ", "x", "on up", "on;;on", "on,on", ";", "- -", "on -", "on|on", "On", ";".join(["-"] * 41)):
            self.assertEqual(answers("run -;on\nrun " + text + "\nholds 0 1 some ends on\nholds 2 2 on"), [
                "ok", "form", "yes", "refused",
            ], text)
        self.assertEqual(answers("run " + ";".join(["-"] * 40) + "\nholds 39 39 on\nholds 40 40 on\nholds 0 40 on"), [
            "ok", "no", "refused", "refused",
        ])

    def test_missing(self):
        for line in ("near on", "watch on", "class 0 begins", "holds 0 0 on", "why 0 0 on", "near " + NEVER, "holds 5 1 on"):
            self.assertEqual(answers(line), ["missing"], line)
            self.assertEqual(answers("run on\nfacts on\n" + line), ["ok", "ok", "missing"], line)

    def random_run(self, rng, many=5):
        return tuple(rng.choice(naive.scenes(("on", "up"))) for _ in range(rng.randint(1, many)))

    def test_holds_and_why(self):
        rng = random.Random(199)
        counts = {}
        for _ in range(200):
            run = self.random_run(rng)
            saying = naive.random_saying(rng, ("on", "up"), rng.randint(1, 7))
            i, j = rng.randint(0, len(run)), rng.randint(0, len(run))
            text = saying_text(saying)
            found = run_script(f"facts on up\nrun {run_text(run)}\nholds {i} {j} {text}\nwhy {i} {j} {text}")[2:]
            if not i <= j < len(run):
                self.assertEqual(found, ["refused", "refused"])
                continue
            yes, paper = naive.why(run, saying, i, j)
            word = "yes" if yes else "no"
            self.assertEqual(found, [word, f"{word} {naive.size(paper)}"])
            counts[word] = counts.get(word, 0) + 1
        self.assertGreater(min(counts.values()), 30)

    def test_a_paper_that_is_too_large(self):
        run = "run " + ";".join(["-"] * 40)
        # All stretches, and all of those within: more than 3000 papers.
        text = "all during all during not on"
        self.assertEqual(answers(f"{run}\nwhy 0 39 {text}\nholds 0 39 {text}\nwhy 0 9 {text}"), [
            "ok", "large", "yes", "yes " + str(naive.size(naive.why(((),) * 40, read_saying(("on",), text), 0, 9)[1])),
        ])

    def test_near(self):
        rng = random.Random(200)
        facts, prices = ("on", "up"), (1, 1, (1, 1))
        counts = {}
        for _ in range(120):
            run = self.random_run(rng)
            saying = naive.random_saying(rng, facts, rng.randint(1, 6))
            machine = machine_of(facts, saying)
            if first_kept(facts, saying) is None:
                expected = "none"
            else:
                nearest = first_nearest(facts, prices, run, machine)[0]
                expected = f"{distance(facts, prices, run, machine)} : {run_text(nearest)}"
            self.assertEqual(run_script(f"facts on up\nrun {run_text(run)}\nnear {saying_text(saying)}")[2:], [expected])
            counts[expected.split(" ")[0]] = counts.get(expected.split(" ")[0], 0) + 1
        for answer in ("0", "1", "none"):
            self.assertGreater(counts[answer], 5)
        self.assertEqual(answers(f"run on\nnear {NEVER}\nnear on"), ["ok", "none", "0 : on"])

    def test_nearest_runs_that_are_too_many_to_tell(self):
        script = "run " + ";".join(["on;-;-;on"] * 5) + "\nnear on\nnear not on"
        self.assertEqual(answers(script)[1:], ["large", "0 : " + " ; ".join(["on ; - ; - ; on"] * 5)])

    def test_watch(self):
        rng = random.Random(201)
        facts = ("on", "up")
        counts = {}
        for _ in range(120):
            run = self.random_run(rng)
            saying = naive.random_saying(rng, facts, rng.randint(1, 6))
            watcher = Watcher(facts, (saying,))
            for scene in run:
                watcher.read(scene)
            expected = {1: "well", -1: "badly", 0: "open"}[watcher.settled(0)]
            self.assertEqual(run_script(f"facts on up\nrun {run_text(run)}\nwatch {saying_text(saying)}")[2:], [expected])
            counts[expected] = counts.get(expected, 0) + 1
        self.assertGreater(min(counts[word] for word in ("well", "badly", "open")), 5)
        self.assertEqual(answers("run on\nwatch on\nwatch point\nwatch not point\nwatch some begins on"), [
            "ok", "open", "badly", "well", "well",
        ])

    def test_class(self):
        rng = random.Random(202)
        facts = ("on", "up")
        for _ in range(40):
            run = self.random_run(rng)
            ways = tuple(way for way in naive.WAYS if rng.random() < 0.15) or ("ends",)
            depth = rng.randint(0, 1)
            try:
                expected = str(class_of(facts, ways, depth, run))
            except TooLarge:
                expected = "large"
            script = f"facts on up\nrun {run_text(run)}\nclass {depth} {' '.join(ways)}"
            self.assertEqual(run_script(script)[2:], [expected])
        script = "run on;-\nclass 0 begins\nclass 7 begins\nclass 6 begins\nclass 0 ends begins\nclass 0 begins begins\nclass 0 x"
        found = answers(script)
        self.assertEqual(found[:3] + found[4:], ["ok", "2", "refused", "refused", "refused", "refused"])
        self.assertRegex(found[3], "[0-9]+|large")


if __name__ == "__main__":
    unittest.main()
