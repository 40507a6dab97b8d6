"""store.py: [9.1], [9.2], [9.3]."""

import random
import re
import unittest

from spansay.errors import BadForm, Broken, Missing, NotAllowed, TooLarge
from spansay.sayingtexts import read_saying, saying_text
from spansay.scenes import is_word
from spansay.store import MAX_IMAGE, MAX_KEPT, MAX_NUMBER, Store, load_store
from tests import naive
from tests.test_takers import BEYOND_THE_BOUNDS, FACTS as THREE_FACTS

FACTS = ("on", "up")
SYSTEM = (((), ("on",)), (0,), ((0, 1), (1,)))
ON, UP, POINT = ("fact", "on"), ("fact", "up"), ("point",)
EVERY = ("or", POINT, ("not", POINT))
LARGE = read_saying(THREE_FACTS, BEYOND_THE_BOUNDS[2][3])
IMAGE = "store 3\nfact on\nfirst -\nstate on\nto 0 1\nto 1\nkeep 2 point or some begins point\n"


def first_broken(system, kept, most=7):
    """The number and the run of [9.2], by a plain search over tracks; None if there is none."""
    for number, saying in kept:
        for track in naive.tracks_up_to(system, most):
            if not naive.kept(naive.run_of(system, track), saying):
                return number, naive.run_of(system, track)
    return None


class Model:
    """What a store is, kept as plain values with a list of all that it was."""

    def __init__(self, system):
        self.system, self.kept, self.coming, self.before = system, (), 1, []

    def change(self, system, kept, coming):
        """Do a change, or return what refuses it."""
        broken = first_broken(system, kept)
        if broken is None:
            self.before.append((self.system, self.kept, self.coming))
            self.system, self.kept, self.coming = system, kept, coming
        return broken

    def undo(self):
        self.system, self.kept, self.coming = self.before.pop()


def set_in(rows, at, row):
    return rows[:at] + (row,) + rows[at + 1:]


def toggled(states, state, is_there):
    return tuple(sorted(set(states) | {state})) if is_there else tuple(s for s in states if s != state)


class ExamplesTest(unittest.TestCase):
    def test_examples(self):
        store = Store(("on",), SYSTEM)
        self.assertEqual(store.keep(("not", ON)), 1)
        self.assertEqual(store.keep(("or", POINT, ("some", "begins", POINT))), 2)
        with self.assertRaises(Broken) as caught:
            store.set_first(1, True)
        self.assertEqual((caught.exception.number, caught.exception.run), (1, (("on",),)))
        self.assertEqual((store.let(1), store.changes()), (None, 3))
        self.assertEqual(load_store(store.image()).image(), store.image())
        self.assertEqual(store.image(), IMAGE)

    def test_constants(self):
        self.assertEqual((MAX_KEPT, MAX_NUMBER, MAX_IMAGE), (6, 999999, 12000))

    def test_a_new_store(self):
        store = Store(FACTS, SYSTEM)
        self.assertEqual((store.facts(), store.system(), store.kept(), store.changes()), (FACTS, SYSTEM, [], 0))
        self.assertEqual(store.image(), "store 1\nfact on\nfact up\nfirst -\nstate on\nto 0 1\nto 1\n")
        with self.assertRaises(Missing):
            store.undo()

    def test_what_is_no_store(self):
        for facts in ((), ("on", "on"), ("ON",), ("and",), ("a", "b", "c", "d"), ("",)):
            with self.assertRaises(NotAllowed):
                Store(facts, (((),), (0,), ((),)))
        for system in (
            ((), (), ()), (((),), (), ((),)), (((),), (1,), ((),)), (((),), (0,), ((1,),)), (((),), (0,), ()),
            ((("x",),), (0,), ((),)), (((),) * 9, (0,), ((),) * 9), (((), ()), (1, 0), ((), ())),
        ):
            with self.assertRaises(NotAllowed):
                Store(FACTS, system)


class ChangesTest(unittest.TestCase):
    def same(self, store, model):
        self.assertEqual((store.system(), store.kept()), (model.system, list(model.kept)))
        self.assertEqual(store.changes(), len(model.before))
        self.assertEqual(store.image().split("\n")[0], f"store {model.coming}")

    def test_random_changes(self):
        rng = random.Random(131)
        counts = {}
        for _ in range(60):
            system = naive.random_system(rng, FACTS, rng.randint(1, 2), 0.2)
            store, model = Store(FACTS, system), Model(system)
            for _ in range(40):
                word, outcome = self.one_change(rng, store, model)
                counts[word, outcome] = counts.get((word, outcome), 0) + 1
                self.same(store, model)
                if rng.random() < 0.1:
                    self.assertEqual(load_store(store.image()).image(), store.image())
        for word in ("keep", "scene", "first", "move"):
            self.assertGreater(counts.get((word, "done"), 0), 5)
            self.assertGreater(counts.get((word, "broken"), 0), 2, counts)
        for word in ("let", "add", "drop", "undo"):
            self.assertGreater(counts.get((word, "done"), 0), 5)
            self.assertNotIn((word, "broken"), counts)

    def one_change(self, rng, store, model):
        """Do one random change to both; return which one, and how it went."""
        word = rng.choice(["keep", "keep", "let", "add", "drop", "scene", "first", "move", "move", "undo"])
        if word == "undo":
            if not model.before:
                with self.assertRaises(Missing):
                    store.undo()
                return word, "missing"
            model.undo()
            self.assertIsNone(store.undo())
            return word, "done"
        call, change, error = getattr(self, "plan_" + word)(rng, store, model)
        image = store.image()
        if error is not None:
            with self.assertRaises(error):
                call()
            self.assertEqual(store.image(), image)
            return word, error.__name__
        result, after = change
        broken = model.change(*after)
        if broken is not None:
            with self.assertRaises(Broken) as caught:
                call()
            self.assertEqual((caught.exception.number, caught.exception.run), broken)
            self.assertEqual(store.image(), image)
            return word, "broken"
        self.assertEqual(call(), result)
        return word, "done"

    def plan_keep(self, rng, store, model):
        saying = rng.choice([
            naive.random_saying(rng, FACTS, rng.randint(1, 4)), ("or", ("not", ON), ("some", "met", ON)),
            ("or", POINT, ("some", "begins", rng.choice([ON, UP, POINT]))), EVERY, ("not", ON), ("not", UP),
        ])
        after = (model.system, model.kept + ((model.coming, saying),), model.coming + 1)
        return lambda: store.keep(saying), (model.coming, after), TooLarge if len(model.kept) == 6 else None

    def plan_let(self, rng, store, model):
        number = rng.choice([0, 1, 2, 3, -1, 99] + [number for number, _ in model.kept])
        rest = tuple(pair for pair in model.kept if pair[0] != number)
        error = Missing if rest == model.kept else None
        return lambda: store.let(number), (None, (model.system, rest, model.coming)), error

    def with_system(self, model, system):
        return None, (system, model.kept, model.coming)

    def plan_add(self, rng, store, model):
        scene = rng.choice(naive.scenes(FACTS) + [("x",)])
        scenes, firsts, moves = model.system
        after = ((scenes + (scene,), firsts, moves + ((),)), model.kept, model.coming)
        error = NotAllowed if scene == ("x",) else TooLarge if len(scenes) == 8 else None
        return lambda: store.add_state(scene), (len(scenes), after), error

    def plan_drop(self, rng, store, model):
        scenes, firsts, moves = model.system
        gone = rng.randrange(-1, len(scenes) + 1)
        if not 0 <= gone < len(scenes):
            return lambda: store.drop_state(gone), None, Missing
        if firsts == (gone,):
            return lambda: store.drop_state(gone), None, NotAllowed
        left = [s for s in range(len(scenes)) if s != gone]
        number = {s: k for k, s in enumerate(left)}
        system = (
            tuple(scenes[s] for s in left), tuple(number[s] for s in firsts if s in number),
            tuple(tuple(number[t] for t in moves[s] if t in number) for s in left),
        )
        return lambda: store.drop_state(gone), self.with_system(model, system), None

    def plan_scene(self, rng, store, model):
        scenes, firsts, moves = model.system
        state = rng.randrange(-1, len(scenes) + 1)
        scene = rng.choice(naive.scenes(FACTS) + [("up", "on")])
        if not 0 <= state < len(scenes):
            return lambda: store.set_scene(state, scene), None, Missing
        if scene == ("up", "on"):
            return lambda: store.set_scene(state, scene), None, NotAllowed
        system = (set_in(scenes, state, scene), firsts, moves)
        return lambda: store.set_scene(state, scene), self.with_system(model, system), None

    def plan_first(self, rng, store, model):
        scenes, firsts, moves = model.system
        state, is_first = rng.randrange(-1, len(scenes) + 1), rng.random() < 0.6
        if not 0 <= state < len(scenes):
            return lambda: store.set_first(state, is_first), None, Missing
        after = toggled(firsts, state, is_first)
        error = None if after else NotAllowed
        return lambda: store.set_first(state, is_first), self.with_system(model, (scenes, after, moves)), error

    def plan_move(self, rng, store, model):
        scenes, firsts, moves = model.system
        state, after = [rng.randrange(-1, len(scenes) + 1) for _ in range(2)]
        is_there = rng.random() < 0.7
        call = lambda: store.set_move(state, after, is_there)
        if not (0 <= state < len(scenes) and 0 <= after < len(scenes)):
            return call, None, Missing
        row = toggled(moves[state], after, is_there)
        return call, self.with_system(model, (scenes, firsts, set_in(moves, state, row))), None

    def test_changes_by_which_nothing_becomes_different(self):
        store = Store(("on",), SYSTEM)
        store.set_first(0, True)
        store.set_first(1, False)
        store.set_move(0, 1, True)
        store.set_move(1, 0, False)
        store.set_scene(1, ("on",))
        self.assertEqual((store.system(), store.changes()), (SYSTEM, 5))
        for many in (4, 3, 2, 1, 0):
            store.undo()
            self.assertEqual(store.changes(), many)

    def test_each_change_is_taken_back(self):
        store = Store(FACTS, SYSTEM)
        images = [store.image()]
        for call in (
            lambda: store.keep(EVERY), lambda: store.add_state(("up",)), lambda: store.set_move(1, 2, True),
            lambda: store.set_first(2, True), lambda: store.set_scene(0, ("on", "up")), lambda: store.keep(EVERY),
            lambda: store.drop_state(0), lambda: store.let(1), lambda: store.set_move(0, 1, False),
            lambda: store.keep(EVERY), lambda: store.let(2), lambda: store.set_first(0, True),
        ):
            call()
            images.append(store.image())
        for image in images[-2::-1]:
            store.undo()
            self.assertEqual(store.image(), image)
        with self.assertRaises(Missing):
            store.undo()

    def test_the_least_number_and_the_first_track(self):
        store = Store(FACTS, (((), ()), (0,), ((1,), ())))
        store.keep(("not", UP))
        store.keep(("not", ("some", "ends", ON)))
        store.keep(("not", ("some", "ends", ("and", ON, UP))))
        with self.assertRaises(Broken) as caught:
            store.set_scene(1, ("on", "up"))
        self.assertEqual((caught.exception.number, caught.exception.run), (2, ((), ("on", "up"))))
        store.let(2)
        with self.assertRaises(Broken) as caught:
            store.set_scene(1, ("on", "up"))
        self.assertEqual((caught.exception.number, caught.exception.run), (3, ((), ("on", "up"))))
        self.assertIsNone(store.set_scene(1, ("on",)))
        with self.assertRaises(Broken) as caught:
            store.keep(("not", ("some", "ends", ON)))
        self.assertEqual((caught.exception.number, caught.exception.run), (4, ((), ("on",))))
        self.assertEqual(store.keep(EVERY), 4)


class NumbersTest(unittest.TestCase):
    def test_a_number_is_not_given_again(self):
        store = Store(("on",), SYSTEM)
        self.assertEqual([store.keep(EVERY) for _ in range(3)], [1, 2, 3])
        store.let(3)
        store.let(1)
        self.assertEqual(store.keep(EVERY), 4)
        self.assertEqual([number for number, _ in store.kept()], [2, 4])
        # Only if the change that gave it is taken back.
        store.undo()
        self.assertEqual(store.keep(EVERY), 4)
        store.undo()
        store.undo()
        store.undo()
        store.undo()
        self.assertEqual(store.keep(EVERY), 3)

    def test_six_kept_sayings_and_seven(self):
        store = Store(("on",), SYSTEM)
        self.assertEqual([store.keep(EVERY) for _ in range(6)], [1, 2, 3, 4, 5, 6])
        image = store.image()
        for saying in (EVERY, ("not", ON), ("and", ON, ("not", ON))):
            with self.assertRaises(TooLarge):
                store.keep(saying)
        with self.assertRaises(NotAllowed):
            store.keep(("fact", "x"))
        self.assertEqual(store.image(), image)
        store.let(4)
        self.assertEqual(store.keep(EVERY), 7)

    def test_the_greatest_number(self):
        store = load_store("store 999999\nfact on\nfirst -\nto -\n")
        self.assertEqual(store.keep(EVERY), 999999)
        self.assertEqual(store.image().split("\n")[0], "store 1000000")
        for saying in (EVERY, ON):
            with self.assertRaises(TooLarge):
                store.keep(saying)
        self.assertEqual(load_store(store.image()).image(), store.image())
        store.undo()
        self.assertEqual(store.keep(EVERY), 999999)

    def test_sayings_that_are_none(self):
        store = Store(("on",), SYSTEM)
        deep = POINT
        for _ in range(30):
            deep = ("not", deep)
        for saying in ((), "point", ("point", "on"), ("fact", "up"), ("some", "on", POINT), deep):
            with self.assertRaises(NotAllowed):
                store.keep(saying)

    def test_takers_that_are_too_large(self):
        facts = THREE_FACTS[:BEYOND_THE_BOUNDS[2][0]]
        store = Store(facts, (((),), (0,), ((),)))
        image = store.image()
        with self.assertRaises(TooLarge):
            store.keep(LARGE)
        self.assertEqual(store.image(), image)

    def test_the_order_of_errors(self):
        store = Store(("on",), SYSTEM)
        for call, error in (
            (lambda: store.set_scene(2, ("x",)), Missing), (lambda: store.set_scene(-1, ()), Missing),
            (lambda: store.set_move(0, 2, True), Missing), (lambda: store.set_move(2, 0, False), Missing),
            (lambda: store.drop_state(2), Missing), (lambda: store.drop_state(0), NotAllowed),
            (lambda: store.set_first(0, False), NotAllowed), (lambda: store.set_first(2, False), Missing),
            (lambda: store.let(0), Missing), (lambda: store.let(1), Missing), (lambda: store.add_state(("x",)), NotAllowed),
        ):
            with self.assertRaises(error):
                call()
        for _ in range(6):
            store.add_state(())
        with self.assertRaises(TooLarge):
            store.add_state(("on",))
        with self.assertRaises(NotAllowed):
            store.add_state(("x",))
        store.keep(("not", ON))
        for call, error in (
            (lambda: store.set_scene(0, ("x",)), NotAllowed), (lambda: store.set_scene(0, ("on",)), Broken),
        ):
            with self.assertRaises(error):
                call()


class CopyTest(unittest.TestCase):
    def test_copies_do_not_touch_each_other(self):
        store = Store(("on",), SYSTEM)
        store.keep(EVERY)
        store.set_move(1, 0, True)
        other = store.copy()
        self.assertIsInstance(other, Store)
        self.assertEqual((other.image(), other.changes()), (store.image(), 2))
        other.keep(("or", ON, EVERY))
        self.assertEqual((store.changes(), other.changes(), len(store.kept())), (2, 3, 1))
        store.undo()
        store.undo()
        self.assertEqual((store.changes(), other.changes()), (0, 3))
        for _ in range(3):
            other.undo()
        self.assertEqual(other.image(), store.image())

    def test_a_returned_list_may_be_changed(self):
        store = Store(("on",), SYSTEM)
        store.keep(EVERY)
        store.kept().clear()
        self.assertEqual(store.kept(), [(1, EVERY)])


def bad_line(text):
    """The number of BadForm as the interface words it, -1 if the text is an image."""
    if len(text) > 12000:
        return 0
    lines = text.split("\n")
    facts, scenes, firsts, rows, kept, coming = [], [], [], [], [], None
    for at, line in enumerate(lines[:-1], 1):
        # Numbers with more digits are greater than all that are allowed.
        found = re.fullmatch(r"store ([1-9][0-9]{0,8})", line)
        if coming is None:
            if not found or int(found[1]) > 1000000:
                return at
            coming = int(found[1])
            continue
        word, _, rest = line.partition(" ")
        if word == "fact":
            if scenes or len(facts) > 2 or not is_word(rest) or rest in facts:
                return at
            facts.append(rest)
        elif word in ("first", "state"):
            known = {" ".join(scene) or "-": scene for scene in naive.scenes(facts)}
            if not facts or rows or len(scenes) > 7 or rest not in known:
                return at
            firsts.append(word == "first")
            scenes.append(known[rest])
        elif word == "to":
            numbers = [] if rest == "-" else rest.split(" ")
            if not any(firsts) or kept or len(rows) == len(scenes):
                return at
            if not all(re.fullmatch(r"0|[1-9][0-9]{0,8}", n) and int(n) < len(scenes) for n in numbers):
                return at
            if sorted({int(n) for n in numbers}) != [int(n) for n in numbers]:
                return at
            rows.append(rest)
        elif word == "keep":
            found = re.fullmatch(r"([1-9][0-9]{0,8}) (.*)", rest)
            if not scenes or len(rows) < len(scenes) or len(kept) > 5 or not found:
                return at
            if int(found[1]) >= coming or (kept and int(found[1]) <= kept[-1]):
                return at
            try:
                if saying_text(read_saying(tuple(facts), found[2])) != found[2]:
                    return at
            except BadForm:
                return at
            kept.append(int(found[1]))
        else:
            return at
    if lines[-1] or not scenes or len(rows) < len(scenes):
        return len(lines)
    return -1


class ImageTest(unittest.TestCase):
    def judge(self, text):
        """Compare with the words of the document; return the number of BadForm."""
        expected = bad_line(text)
        if expected == -1:
            try:
                store = load_store(text)
            except (Broken, TooLarge):
                return -1
            self.assertEqual((store.image(), store.changes()), (text, 0))
            return -1
        with self.assertRaises(BadForm, msg=text) as caught:
            load_store(text)
        self.assertEqual(caught.exception.line, expected, text)
        return expected

    def images(self):
        rng = random.Random(133)
        yield IMAGE
        yield "store 1000000\nfact a\nfact b\nfact c\n" + "first a b c\nstate -\n" * 4 + "to 0 1 2 3 4 5 6 7\nto -\n" * 4
        yield "store 9\nfact on\nfirst -\nto -\n" + "".join(f"keep {n} point or not point\n" for n in (1, 2, 3, 5, 6, 8))
        for _ in range(12):
            facts = FACTS[:rng.randint(1, 2)]
            store = Store(facts, naive.random_system(rng, facts, rng.randint(1, 3)))
            for _ in range(6):
                try:
                    store.keep(naive.random_saying(rng, facts, rng.randint(1, 6)))
                except Broken:
                    continue
            yield store.image()

    def test_images_are_read_back(self):
        for text in self.images():
            self.assertEqual(self.judge(text), -1, text)
        store = load_store(IMAGE)
        self.assertEqual((store.facts(), store.system(), store.changes()), (("on",), SYSTEM, 0))
        self.assertEqual(store.kept(), [(2, ("or", POINT, ("some", "begins", POINT)))])
        self.assertEqual(store.keep(EVERY), 3)
        with self.assertRaises(Missing):
            load_store(IMAGE).undo()

    def test_lines_left_out_twice_and_in_the_wrong_place(self):
        bad = 0
        for text in self.images():
            lines = text.split("\n")[:-1]
            for at in range(len(lines)):
                for rows in (
                    lines[:at] + lines[at + 1:], lines[:at] + [lines[at]] + lines[at:], lines[:at] + [""] + lines[at:],
                    lines[:at], lines[:at] + lines[at + 1:] + [lines[at]], [lines[at]] + lines[:at] + lines[at + 1:],
                ):
                    bad += self.judge("".join(row + "\n" for row in rows)) >= 0
                for other in range(at):
                    rows = list(lines)
                    rows[at], rows[other] = rows[other], rows[at]
                    bad += self.judge("".join(row + "\n" for row in rows)) >= 0
        self.assertGreater(bad, 300)

    def test_lines_without_their_newline(self):
        for text in self.images():
            self.assertEqual(self.judge(text[:-1]), text.count("\n"))
            self.assertEqual(self.judge(text + " "), text.count("\n") + 1)
            self.assertEqual(self.judge(text + "\n"), text.count("\n") + 1)
            self.assertEqual(self.judge("\n" + text), 1)
            for at, sign in enumerate(text):
                if sign == "\n":
                    self.judge(text[:at] + text[at + 1:])
                    self.judge(text[:at] + " " + text[at + 1:])
        self.assertEqual(self.judge(""), 1)
        self.assertEqual(self.judge("store 1"), 1)

    def test_each_line_spoilt(self):
        for text in self.images():
            lines = text.split("\n")[:-1]
            for at, line in enumerate(lines):
                words = line.split(" ")
                spoilt = [line + " ", " " + line, line.replace(" ", "  ", 1), words[0], words[0] + " ", line + " x",
                          line.upper(), line + " -", line + " 0", line + " 9", "x" + line, line[:-1]]
                spoilt += [words[0] + " " + rest for rest in (
                    "-", "0", "00", "01", "1", "-1", "9", "1 0", "0 0", "8", "1000001", "1000000", "10000000", "on up",
                    "up on", "on on", "-on", "and", "abcdefghi", "Ab", "1 point", "0 point", "2 point", "9 on", "1  on",
                    "1 (on)", "1 on or(point)", "1 not  on", "1 on ", "1 ", "01 on", "1 x", "1 on and", "1" * 5000,
                )]
                for row in spoilt:
                    rows = lines[:at] + [row] + lines[at + 1:]
                    self.judge("".join(row + "\n" for row in rows))

    def test_the_words_of_the_interface(self):
        head = "store 5\nfact on\nfirst -\nstate on\n"
        whole = head + "to 0 1\nto 1\n"
        for text, line in (
            ("store 0\n", 1), ("store 1000001\n", 1), ("store 01\n", 1), ("store\n", 1), ("stores 1\n", 1), ("fact on\n", 1),
            ("store 1\n", 2), ("store 1\nstore 1\n", 2), ("store 1\nfirst -\n", 2), ("store 1\nto -\n", 2),
            ("store 1\nfact on\nfact on\n", 3), ("store 1\nfact some\n", 2), ("store 1\nfact a\nfact b\nfact c\nfact d\n", 5),
            ("store 1\nfact on\n", 3), ("store 1\nfact on\nto -\n", 3), ("store 1\nfact on\nkeep 1 on\n", 3),
            ("store 1\nfact on\nstate -\nto -\n", 4), ("store 1\nfact on\nstate -\n", 4),
            ("store 1\nfact on\nfirst up\n", 3), ("store 1\nfact on\nfact up\nfirst up on\n", 4),
            ("store 1\nfact on\n" + "first -\n" * 9, 11), (head, 5), (head + "to 0\n", 6), (head + "to 2\n", 5),
            (head + "to 1 0\n", 5), (head + "to 0 0\n", 5), (head + "to\n", 5), (whole + "to 1\n", 7),
            (head + "to 0\nkeep 1 on\n", 6), (head + "keep 1 point\n", 5), (whole + "fact up\n", 7), (whole + "state -\n", 7),
            (whole + "keep 5 point\n", 7), (whole + "keep 0 point\n", 7), (whole + "keep 1 up\n", 7),
            (whole + "keep 2 on or not on\nkeep 2 on or not on\n", 8), (whole + "keep 2 on or not on\nkeep 1 on\n", 8),
            (whole + "keep 2 (on)\n", 7), (whole + "keep 2 on or not on\nto 1\n", 8), (whole + "keep 1\n", 7),
            (whole + "keep 1 on or not on\nx", 8),
        ):
            self.assertEqual(self.judge(text), line, text)
        kept = "store 9\nfact on\nfirst -\nto -\n" + "".join(f"keep {n} not on\n" for n in range(1, 8))
        self.assertEqual(self.judge(kept), 11)

    def test_twelve_thousand_characters_and_one_more(self):
        # No image has so many: what is behind the last line that can be right is told.
        text = IMAGE + "x" * (12000 - len(IMAGE))
        self.assertEqual(self.judge(text), 8)
        self.assertEqual(self.judge(text + "x"), 0)
        self.assertEqual(self.judge("x" * 12001), 0)
        self.assertEqual(self.judge("x\n" * 6000), 1)
        self.assertEqual(self.judge("store 1\n" * 1600), 0)

    def test_broken_behind_bad_form(self):
        whole = "store 9\nfact on\nfirst -\nstate on\nto 0 1\nto 1\n"
        with self.assertRaises(Broken) as caught:
            load_store(whole + "keep 2 not on\nkeep 4 not some ends on\nkeep 7 on\n")
        self.assertEqual((caught.exception.number, caught.exception.run), (4, ((), ("on",))))
        with self.assertRaises(Broken) as caught:
            load_store(whole + "keep 7 on\n")
        self.assertEqual((caught.exception.number, caught.exception.run), (7, ((),)))
        with self.assertRaises(BadForm) as caught:
            load_store(whole + "keep 7 on\nkeep 7 on\n")
        self.assertEqual(caught.exception.line, 8)
        with self.assertRaises(BadForm) as caught:
            load_store(whole + "keep 7 on\nx")
        self.assertEqual(caught.exception.line, 8)

    def test_too_large_behind_bad_form_and_ahead_of_broken(self):
        facts = THREE_FACTS[:BEYOND_THE_BOUNDS[2][0]]
        whole = "store 9\n" + "".join(f"fact {fact}\n" for fact in facts) + "first -\nto -\n"
        large = f"keep 3 {saying_text(LARGE)}\n"
        with self.assertRaises(TooLarge):
            load_store(whole + "keep 1 on\n" + large)
        with self.assertRaises(TooLarge):
            load_store(whole + large)
        with self.assertRaises(BadForm):
            load_store(whole + large + "keep 3 on\n")


if __name__ == "__main__":
    unittest.main()
