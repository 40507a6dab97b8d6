"""takerpapers.py: [2.4] to [2.6], paper_of and judge_paper."""

import itertools
import random
import unittest

from spansay.errors import BadPaper, TooLarge
from spansay.sayingtexts import read_saying
from spansay.takerpapers import judge_paper, paper_of
from spansay.takers import taker_of
from tests import naive
from tests.test_takers import BEYOND_THE_BOUNDS, FACTS

ON = ("fact", "on")
POINT = ("point",)
SAYINGS = [read_saying(("on",), text) for text in (
    "on", "point", "not on", "on and point", "on or not point", "some begins on", "all ends on",
    "some meets not on", "all overlaps (on or point)", "some during all met on", "not some later not on",
    "all earlier some around (on and not point)",
)]


def shuffled(rng, facts, saying):
    """A right paper with other numbers of rooms (but the first one) and another order of states."""
    lines = []
    for part, places in naive.parts(saying):
        machines = [lines[k][0] for k in places]
        letters, moves, lets = taker_of(facts, part)
        names = [0] + rng.sample(range(1, len(moves)), len(moves) - 1)
        rows = [None] * len(moves)
        for room, row in enumerate(moves):
            rows[names[room]] = tuple(names[after] for after in row)
        machine = (letters, tuple(rows), tuple(sorted(names[room] for room in lets)))
        table = list(walked(part, machines, machine).items())
        rng.shuffle(table)
        lines.append((machine, tuple(table)))
    return tuple(lines)


def walked(part, machines, machine):
    """The dict of the rooms of all states of rows."""
    start = {"point": 0, "fact": 0, "some": ((0, -1),), "all": (((0, -1),), 0)}.get(part[0], (0, 0))
    rooms = {start: 0}
    waiting = [start]
    while waiting:
        state = waiting.pop()
        for at, mark in enumerate(machine[0]):
            after = naive.state_after(part, machines, state, mark)
            if after not in rooms:
                rooms[after] = machine[1][rooms[state]][at]
                waiting.append(after)
    return rooms


def roomy(facts, saying, starts):
    """A right paper with a room of its own for each state, of some other states, too.

    `starts` has for each part a list of further states, which need be no states of rows.
    """
    lines = []
    for (part, places), further in zip(naive.parts(saying), starts):
        machines = [lines[k][0] for k in places]
        first = {"point": 0, "fact": 0, "some": ((0, -1),), "all": (((0, -1),), 0)}
        states = [first.get(part[0], (0, 0))]
        states += [state for state in further if state not in states]
        rows = []
        for state in states:
            row = [naive.state_after(part, machines, state, mark) for mark in naive.marks(facts)]
            states.extend(after for after in dict.fromkeys(row) if after not in states)
            rows.append(tuple(states.index(after) for after in row))
        lets = [k for k, state in enumerate(states) if naive.is_good(part, machines, state)]
        machine = (naive.marks(facts), tuple(rows), tuple(lets))
        lines.append((machine, tuple((state, k) for k, state in enumerate(states))))
    return tuple(lines)


class PaperTest(unittest.TestCase):
    def test_example(self):
        paper = paper_of(("on",), ("fact", "on"))
        self.assertEqual(
            paper[0][0][1],
            ((0, 1, 1, 0, 2, 1), (1, 1, 1, 1, 1, 1), (1, 1, 3, 1, 2, 3), (1, 1, 3, 1, 1, 3)),
        )
        self.assertEqual((paper[0][0][2], paper[0][1]), ((2, 3), ((0, 0), (1, 2), (2, 3), (3, 1))))
        with self.assertRaises(BadPaper):
            judge_paper(("on",), ("fact", "on"), paper[:-1])

    def test_a_line_for_each_part_in_order(self):
        saying = ("and", ("some", "met", ON), ("not", ("or", POINT, ON)))
        order = [
            ON, ("some", "met", ON), POINT, ON, ("or", POINT, ON), ("not", ("or", POINT, ON)), saying,
        ]
        paper = paper_of(("on",), saying)
        self.assertEqual([line[0] for line in paper], [taker_of(("on",), part) for part in order])

    def test_against_the_slow_one(self):
        rng = random.Random(51)
        for saying in SAYINGS:
            self.assertEqual(paper_of(("on",), saying), naive.paper(("on",), saying))
        for _ in range(60):
            facts = FACTS[:rng.randint(1, 3)]
            saying = naive.random_saying(rng, facts, rng.randint(1, 20))
            paper = paper_of(facts, saying)
            self.assertEqual(paper, naive.paper(facts, saying))
            self.assertIsNone(judge_paper(facts, saying, paper))

    def test_states_are_those_of_rows(self):
        letters = naive.marks(("on",))
        for way in naive.WAYS:
            for saying in (("some", way, ON), ("all", way, ("not", ("point",))), ("not", ("all", way, ON))):
                paper = paper_of(("on",), saying)
                for (part, places), (machine, table) in zip(naive.parts(saying), paper):
                    machines = [paper[k][0] for k in places]
                    states = [state for state, _ in table]
                    self.assertEqual(states, sorted(set(states)))
                    for row in itertools.product(letters, repeat=3):
                        state = naive.state_of_row(part, machines, row)
                        self.assertIn((state, naive.room(machine, row)), table)

    def test_the_state_of_the_empty_row(self):
        for saying, state in (
            (ON, 0), (POINT, 0), (("not", ON), (0, 0)), (("and", ON, POINT), (0, 0)),
            (("some", "met", ON), ((0, -1),)), (("all", "met", ON), (((0, -1),), 0)),
        ):
            self.assertIn((state, 0), paper_of(("on",), saying)[-1][1])

    def test_too_large(self):
        for many, _, _, text in BEYOND_THE_BOUNDS:
            saying = read_saying(FACTS[:many], text)
            with self.assertRaises(TooLarge):
                paper_of(FACTS[:many], saying)
            with self.assertRaises(TooLarge):
                paper_of(FACTS[:many], ("not", saying))


class RightTest(unittest.TestCase):
    def test_other_orders_of_rooms_and_states(self):
        rng = random.Random(52)
        for saying in SAYINGS:
            for _ in range(5):
                paper = shuffled(rng, ("on",), saying)
                self.assertIsNone(judge_paper(("on",), saying, paper))
        for _ in range(20):
            facts = FACTS[:rng.randint(1, 2)]
            saying = naive.random_saying(rng, facts, rng.randint(2, 12))
            self.assertIsNone(judge_paper(facts, saying, shuffled(rng, facts, saying)))

    def test_machines_that_are_not_least(self):
        for saying in (ON, POINT, ("not", ON), ("some", "begins", ON), ("all", "ended", POINT)):
            paper = roomy(("on",), saying, [[]] * 3)
            self.assertIsNone(judge_paper(("on",), saying, paper))

    def test_states_of_no_row(self):
        for saying, further in (
            (("not", ON), [(1, 0), (2, 3), (3, 1)]), (("and", ON, POINT), [(1, 3), (2, 0), (3, 2)]),
            (("some", "met", ON), [((1, -1),), ((0, -1), (2, 1), (3, 4)), ((0, 4),)]),
            (("all", "begins", ON), [(((2, -1), (2, 2)), 3), ((), 0), (((1, 3),), 1)]),
        ):
            places = [[] for _ in naive.parts(saying)]
            places[-1] = further
            paper = roomy(("on",), saying, places)
            states = dict(paper[-1][1])
            for state in further:
                self.assertIn(state, states)
            self.assertIsNone(judge_paper(("on",), saying, paper))
            for state in further:
                spoilt = tuple(pair for pair in paper[-1][1] if pair[0] != state)
                start = paper[-1][1][0]
                self.assertEqual(start[1], 0)
                behind = any(
                    naive.state_after(saying, [line[0] for line in paper[:-1]], other, mark) == state
                    for other, _ in spoilt for mark in naive.marks(("on",))
                )
                self.judge(saying, paper[:-1] + ((paper[-1][0], spoilt),), not behind)

    def judge(self, saying, paper, is_right):
        if is_right:
            self.assertIsNone(judge_paper(("on",), saying, paper))
        else:
            with self.assertRaises(BadPaper):
                judge_paper(("on",), saying, paper)

    def test_rooms_to_which_no_row_leads(self):
        for saying in SAYINGS:
            paper = paper_of(("on",), saying)
            (letters, moves, lets), table = paper[-1]
            machine = (letters, moves + ((0,) * 6,), lets + (len(moves),))
            self.assertIsNone(judge_paper(("on",), saying, paper[:-1] + ((machine, table),)))

    def test_a_paper_of_a_saying_with_too_many_sets_to_make_one(self):
        many, sets, _, text = BEYOND_THE_BOUNDS[2]
        saying = read_saying(FACTS[:many], text)
        paper = naive.paper(FACTS[:many], saying, sets)
        self.assertIsNone(judge_paper(FACTS[:many], saying, paper))
        with self.assertRaises(TooLarge):
            paper_of(FACTS[:many], saying)


class SpoiltTest(unittest.TestCase):
    def assert_bad(self, saying, paper, facts=("on",)):
        with self.assertRaises(BadPaper):
            judge_paper(facts, saying, paper)

    def with_line(self, paper, k, line):
        return paper[:k] + (line,) + paper[k + 1:]

    def test_lines(self):
        for saying in SAYINGS:
            paper = paper_of(("on",), saying)
            self.assert_bad(saying, ())
            self.assert_bad(saying, paper[1:])
            self.assert_bad(saying, paper[:-1])
            self.assert_bad(saying, paper + paper[-1:])
            self.assert_bad(saying, paper[:1] + paper)
            for other in SAYINGS:
                if other != saying and len(naive.parts(other)) == len(paper):
                    self.assert_bad(saying, paper_of(("on",), other))
        saying = ("and", ON, POINT)
        paper = paper_of(("on",), saying)
        self.assert_bad(saying, (paper[1], paper[0], paper[2]))

    def test_rooms_of_the_table(self):
        for saying in SAYINGS:
            paper = paper_of(("on",), saying)
            for k, (machine, table) in enumerate(paper):
                for at, (state, right) in enumerate(table):
                    for room in range(-1, len(machine[1]) + 1):
                        if room != right:
                            spoilt = table[:at] + ((state, room),) + table[at + 1:]
                            self.assert_bad(saying, self.with_line(paper, k, (machine, spoilt)))

    def test_states_of_the_table(self):
        wrong = (
            -1, 4, 7, (), (0,), (0, 0), (0, 0, 0), ((0, -1),), ((0, -2),), ((0, 9),), ((99, 0),),
            ((-1, 0),), ((0, 1), (0, 1)), ((1, 0), (0, 0)), (((0, -1),), 4), (((0, -1),), -1),
            (((0, -1),), ()), ((((((((((),),),),),),),),),), ((), 0), (0, ()), ((0,), 0), ((0, 0), 0),
            (99, 0), (0, 99), (-1, 0), (0, -1), ((0, 0, 0),), ((0, (0, 0)),), (((0, 0), (0, 0)), 1),
            (((1, 1), (0, 1)), 1), ((0, 5),), (((0, 5),), 1), ((5, 0), 1), (1, (0, -1)),
        )
        for saying in SAYINGS:
            paper = paper_of(("on",), saying)
            for k, (machine, table) in enumerate(paper):
                states = [state for state, _ in table]
                for at, (state, room) in enumerate(table):
                    rest = table[:at] + table[at + 1:]
                    self.assert_bad(saying, self.with_line(paper, k, (machine, rest)))
                    twice = table + ((state, room),)
                    self.assert_bad(saying, self.with_line(paper, k, (machine, twice)))
                for value in wrong:
                    if value not in states:
                        spoilt = ((value, table[0][1]),) + table[1:]
                        self.assert_bad(saying, self.with_line(paper, k, (machine, spoilt)))
                self.assert_bad(saying, self.with_line(paper, k, (machine, ())))

    def test_states_that_are_none_although_all_others_are_there(self):
        for saying, wrong in (
            (ON, [4, -1, (), (0, 0)]), (POINT, [4, ((0, -1),)]),
            (("not", ON), [(4, 3), (0, 4), (-1, 3), 1, (0,), (0, 3, 3), ((), 3), (0, ())]),
            (("and", ON, POINT), [(4, 0), (0, 3), (0, 4), (0, -1), (-1, 0), 2, (0,), (1, 1, 1)]),
            (("or", POINT, ON), [(3, 0), (0, 4), (0, -1), (-1, 0), 2, (0,), (1, 1, 1)]),
            (("some", "later", ON), [
                ((4, 0),), ((0, 5),), ((0, -2),), ((0, 0), (0, 0)), ((1, 0), (0, 0)), (1,), ((1,),), 0,
                ((0, 0, 0),), (((), 0),), ((0, ()),), ((), 3), ((-1, 0),),
            ]),
            (("all", "begins", ON), [
                (((4, 0),), 3), (((0, 4),), 3), ((), 4), ((), -1), (), ((), ()), ((), 3, 3), 3,
                (((1, 0), (0, 0)), 3), (((0, 0), (0, 0)), 3), ((1,), 3), (1, 3),
            ]),
        ):
            paper = paper_of(("on",), saying)
            machine, table = paper[-1]
            for value in wrong:
                for room in range(len(machine[1])):
                    spoilt = table + ((value, room),)
                    self.assert_bad(saying, paper[:-1] + ((machine, spoilt),))

    def test_sets_told_in_another_way(self):
        for way in naive.WAYS:
            for word in ("some", "all"):
                saying = (word, way, ("or", ON, POINT))
                last = len(naive.blocks(way)) - 1
                further = ((0, last),) if word == "some" else (((0, last),), 2)
                places = [[] for _ in naive.parts(saying)]
                places[-1] = [further]
                paper = roomy(("on",), saying, places)
                self.assertIsNone(judge_paper(("on",), saying, paper))
                machine, table = paper[-1]
                for at, (state, room) in enumerate(table):
                    for value in other_tellings(state if word == "some" else state[0], last):
                        value = value if word == "some" else (value, state[1])
                        spoilt = table[:at] + ((value, room),) + table[at + 1:]
                        self.assert_bad(saying, paper[:-1] + ((machine, spoilt),))

    def test_moves(self):
        for saying in SAYINGS:
            paper = paper_of(("on",), saying)
            for k, ((letters, moves, lets), table) in enumerate(paper):
                for room, row in enumerate(moves):
                    for at, right in enumerate(row):
                        after = (right + 1) % len(moves)
                        if after != right:
                            line = row[:at] + (after,) + row[at + 1:]
                            machine = (letters, moves[:room] + (line,) + moves[room + 1:], lets)
                            self.assert_bad(saying, self.with_line(paper, k, (machine, table)))

    def test_rooms_that_let_by(self):
        for saying in SAYINGS:
            paper = paper_of(("on",), saying)
            for k, ((letters, moves, lets), table) in enumerate(paper):
                for room in range(len(moves)):
                    other = tuple(sorted(set(lets) ^ {room}))
                    machine = (letters, moves, other)
                    self.assert_bad(saying, self.with_line(paper, k, (machine, table)))

    def test_letters(self):
        for saying in SAYINGS:
            paper = paper_of(("on",), saying)
            for k, ((letters, moves, lets), table) in enumerate(paper):
                others = [
                    letters[1:] + letters[:1], letters[::-1], tuple(range(6)),
                    letters[:3] + ((("up",), 0),) + letters[4:], ("a",) + letters[1:],
                ]
                for other in others:
                    self.assert_bad(saying, self.with_line(paper, k, ((other, moves, lets), table)))
                fewer = (letters[:-1], tuple(row[:-1] for row in moves), lets)
                self.assert_bad(saying, self.with_line(paper, k, (fewer, table)))
                more = (letters + (7,), tuple(row + (0,) for row in moves), lets)
                self.assert_bad(saying, self.with_line(paper, k, (more, table)))

    def test_letters_in_another_order_with_their_moves(self):
        (letters, moves, lets), table = paper_of(("on",), ON)[0]
        machine = (letters[::-1], tuple(row[::-1] for row in moves), lets)
        self.assert_bad(ON, ((machine, table),))

    def test_a_paper_of_other_facts(self):
        paper = paper_of(("on",), ON)
        self.assert_bad(ON, paper, ("on", "up"))
        self.assert_bad(ON, paper_of(("on", "up"), ON), ("up", "on"))
        self.assert_bad(("fact", "up"), paper_of(("on", "up"), ON), ("on", "up"))

    def test_a_paper_is_not_changed(self):
        saying = SAYINGS[-1]
        paper = paper_of(("on",), saying)
        judge_paper(("on",), saying, paper)
        self.assertEqual(paper, paper_of(("on",), saying))


def other_tellings(pairs, last):
    """Values that are no sets, but might be taken for this one."""
    if pairs:
        yield pairs + pairs[-1:]
        yield pairs[:1] + pairs
        yield (pairs,)
        yield pairs + ((pairs[-1][0], last + 1),)
    if len(pairs) > 1:
        yield pairs[::-1]
    if pairs == ((0, last),):
        yield ((0, -2),)


if __name__ == "__main__":
    unittest.main()
