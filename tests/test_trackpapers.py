"""trackpapers.py: [7.3], [7.5]."""

import itertools
import random
import unittest

from spansay.errors import BadPaper, TooLarge
from spansay.sayingtexts import read_saying
from spansay.trackpapers import judge_readers, readers_paper
from spansay.tracks import reader_of
from tests import naive
from tests.test_tracks import BEYOND_THE_BOUNDS, FACTS, SYSTEM, SYSTEMS, WITHIN_THE_BOUNDS

ON = ("fact", "on")
POINT = ("point",)
FORMS = (
    ON, POINT, ("not", ON), ("not", POINT), ("and", ON, POINT), ("or", ("not", ON), POINT),
) + tuple((word, way, ("not", ON)) for word in ("some", "all") for way in naive.WAYS)


def with_line(paper, at, machine=None, table=None):
    """A paper with another machine or table in one line."""
    line = (paper[at][0] if machine is None else machine, paper[at][1] if table is None else table)
    return paper[:at] + (line,) + paper[at + 1:]


def is_state(system, part, machines, state):
    """Whether a value is one of the states that [7.5] allows."""
    if not isinstance(state, tuple) or len(state) < 1:
        return False
    end, rest = state[0], state[1:]
    if not isinstance(end, int) or not -2 <= end < len(system[0]):
        return False
    word = part[0]
    if word in ("some", "all"):
        if len(rest) != 1 or not isinstance(rest[0], tuple) or (end < 0 and rest[0] != ()):
            return False
        return is_set(system, part[1], machines[0], rest[0])
    if not all(isinstance(number, int) for number in rest):
        return False
    if word == "point":
        return len(rest) == 1 and 0 <= rest[0] <= 2 and (end >= 0 or rest[0] == 0)
    if word == "fact":
        return len(rest) == 1 and 0 <= rest[0] <= 1 and (end >= 0 or rest[0] == (1 if end == -1 else 0))
    return len(rest) == len(machines) and all(0 <= at < len(m[1]) for at, m in zip(rest, machines))


def is_set(system, way, machine, pairs):
    most = len(system[0]) if way in ("met", "earlier") else len(machine[1])
    for pair in pairs:
        if not isinstance(pair, tuple) or len(pair) != 2 or not all(isinstance(k, int) for k in pair):
            return False
        if not 0 <= pair[0] < most or pair[1] not in ((0, 1) if way in ("begins", "during", "overlapped") else (0,)):
            return False
    if way in ("meets", "later") and pairs:
        return False
    return list(pairs) == sorted(set(pairs))


def is_right(system, saying, paper):
    """[7.5], word by word."""
    parts = naive.parts(saying)
    if len(paper) != len(parts):
        return False
    for (part, places), (machine, table) in zip(parts, paper):
        machines = [paper[place][0] for place in places]
        if machine[0] != tuple(range(len(system[0]))):
            return False
        rooms = {}
        for state, room in table:
            if not is_state(system, part, machines, state) or state in rooms or not 0 <= room < len(machine[1]):
                return False
            rooms[state] = room
        if rooms.get(naive.path_state(system, part, machines, ())) != 0:
            return False
        for state, room in rooms.items():
            if naive.is_path_state_good(system, part, machines, state) != (room in machine[2]):
                return False
            for q in range(len(system[0])):
                after = naive.path_state_after(system, part, machines, state, q)
                if rooms.get(after) != machine[1][room][q]:
                    return False
    return True


class PaperTest(unittest.TestCase):
    def test_right_papers_with_the_states_of_all_rows(self):
        rng = random.Random(105)
        for system in SYSTEMS:
            for saying in FORMS:
                self.compare(system, saying)
        for _ in range(100):
            facts = FACTS[:rng.randint(1, 2)]
            system = naive.random_system(rng, facts, rng.randint(1, 4))
            self.compare(system, naive.random_saying(rng, facts, rng.randint(1, 8)))

    def compare(self, system, saying):
        try:
            expected = naive.readers_paper(system, saying)
        except naive.Large:
            with self.assertRaises(TooLarge):
                readers_paper(system, saying)
            return
        paper = readers_paper(system, saying)
        self.assertEqual(paper, expected)
        for _, table in paper:
            self.assertEqual(list(table), sorted(table))
        self.assertEqual(paper[-1][0], reader_of(system, saying))
        self.assertTrue(is_right(system, saying, paper))
        self.assertIsNone(judge_readers(system, saying, paper))

    def test_bounds(self):
        for _, _, system, text in WITHIN_THE_BOUNDS:
            saying = read_saying(FACTS, text)
            self.assertIsNone(judge_readers(system, saying, readers_paper(system, saying)))
        for _, _, system, text in BEYOND_THE_BOUNDS:
            with self.assertRaises(TooLarge):
                readers_paper(system, read_saying(FACTS, text))

    def test_too_large_ahead_of_a_bad_paper(self):
        for _, _, system, text in BEYOND_THE_BOUNDS:
            for paper in ((), (((0,), ((0,),), (0,)), ((0, 0),))):
                with self.assertRaises(TooLarge):
                    judge_readers(system, read_saying(FACTS, text), paper)


class JudgeTest(unittest.TestCase):
    def judge(self, system, saying, paper):
        """Compare the judge with the words of the document; return whether the paper is right."""
        if is_right(system, saying, paper):
            self.assertIsNone(judge_readers(system, saying, paper))
            return True
        with self.assertRaises(BadPaper, msg=(system, saying, paper)):
            judge_readers(system, saying, paper)
        return False

    def bad(self, system, saying, paper):
        self.assertFalse(self.judge(system, saying, paper), (system, saying, paper))

    def test_lines(self):
        saying = ("and", ("not", ON), ("some", "begins", POINT))
        paper = readers_paper(SYSTEM, saying)
        for spoilt in ((), paper[:-1], paper[1:], paper + paper[-1:], paper[::-1], paper[1:2] + paper[:1] + paper[2:]):
            self.bad(SYSTEM, saying, spoilt)

    def test_letters(self):
        for saying in FORMS:
            paper = readers_paper(SYSTEM, saying)
            for at, ((_, rows, lets), _) in enumerate(paper):
                for letters in ((1, 0), (0, 2), ((), ("on",)), ("a", "b"), ((0,), (1,))):
                    self.bad(SYSTEM, saying, with_line(paper, at, (letters, rows, lets)))
                self.bad(SYSTEM, saying, with_line(paper, at, ((0, 1, 2), tuple(row + (0,) for row in rows), lets)))
                self.bad(SYSTEM, saying, with_line(paper, at, ((0,), tuple(row[:1] for row in rows), lets)))

    def test_moves_and_rooms_that_let_by(self):
        rng = random.Random(106)
        for system in (SYSTEM, SYSTEMS[3]):
            for saying in FORMS:
                paper = readers_paper(system, saying)
                for at, ((letters, rows, lets), _) in enumerate(paper):
                    for room, k in itertools.product(range(len(rows)), range(len(letters))):
                        for other in range(len(rows)):
                            if other != rows[room][k]:
                                row = rows[room][:k] + (other,) + rows[room][k + 1:]
                                moved = rows[:room] + (row,) + rows[room + 1:]
                                self.bad(system, saying, with_line(paper, at, (letters, moved, lets)))
                    for room in range(len(rows)):
                        turned = tuple(sorted(set(lets) ^ {room}))
                        self.bad(system, saying, with_line(paper, at, (letters, rows, turned)))
                    # A further room to which no state of the table belongs is all the same.
                    if len(rows) < 60:
                        more = rows + (tuple(rng.randrange(len(rows) + 1) for _ in letters),)
                        if at == len(paper) - 1:
                            self.assertTrue(self.judge(system, saying, with_line(paper, at, (letters, more, lets))))
                            let = lets + (len(rows),)
                            self.assertTrue(self.judge(system, saying, with_line(paper, at, (letters, more, let))))

    def test_tables(self):
        for system in (SYSTEM, SYSTEMS[4]):
            for saying in FORMS:
                paper = readers_paper(system, saying)
                for at, (machine, table) in enumerate(paper):
                    self.assertTrue(self.judge(system, saying, with_line(paper, at, table=table[::-1])))
                    for k, (state, room) in enumerate(table):
                        rest = table[:k] + table[k + 1:]
                        self.bad(system, saying, with_line(paper, at, table=rest))
                        self.bad(system, saying, with_line(paper, at, table=table + (table[k],)))
                        for other in range(-1, len(machine[1]) + 1):
                            if other != room:
                                self.bad(system, saying, with_line(paper, at, table=rest + ((state, other),)))
                    self.bad(system, saying, with_line(paper, at, table=()))

    def test_values_that_are_no_states(self):
        rng = random.Random(109)
        for saying in FORMS:
            paper = readers_paper(SYSTEM, saying)
            for at, (_, table) in enumerate(paper):
                values = [0, -1, (), (0,), ((),), (0, 0, 0, 0), (0, ((0, 0),), 0), ((0, 0), 0), (3, 0), (-3, 0)]
                for state, _ in table:
                    values += [state + (0,), state[:-1], (state,), (state[0], state[1:])]
                    values += [(end,) + state[1:] for end in (-3, -2, -1, 2, 7, (), (0,))]
                    for k in range(1, len(state)):
                        for value in (-1, 3, 9, (), (0,), ((0,),), ((0, 2),), ((-1, 0),), ((9, 0),), ((0, 0), (0, 0)),
                                      ((1, 0), (0, 0)), ((0, 1), (0, 0)), ((0, 0, 0),), (((0, 0), 0),), ((0, -1),)):
                            values.append(state[:k] + (value,) + state[k + 1:])
                known = [state for state, _ in table]
                for value in values:
                    if value not in known:
                        self.judge(SYSTEM, saying, with_line(paper, at, table=table + ((value, 0),)))
                        k = rng.randrange(len(table))
                        spoilt = table[:k] + ((value, table[k][1]),) + table[k + 1:]
                        self.bad(SYSTEM, saying, with_line(paper, at, table=spoilt))

    def test_sets_that_may_have_pairs_with_1(self):
        for way in naive.WAYS:
            saying = ("some", way, POINT)
            paper = readers_paper(SYSTEM, saying)
            machine, table = paper[1]
            for value in ((1, ((0, 1),)), (1, ((1, 0),)), (1, ((0, 0), (0, 1))), (1, ((1, 0), (1, 1)))):
                expected = is_set(SYSTEM, way, paper[0][0], value[1])
                self.assertEqual(is_state(SYSTEM, saying, [paper[0][0]], value), expected)
                line = naive.plain_path_line(SYSTEM, saying, [paper[0][0]], [value])
                if len(line[0][1]) <= 60:
                    self.assertEqual(self.judge(SYSTEM, saying, (paper[0], line)), expected)

    def test_numbers_that_a_state_may_have(self):
        # All goes on as it should; what is wrong, if it is, is the number alone.
        for saying in (POINT, ON):
            for end in range(-2, 2):
                for number in range(4):
                    line = naive.plain_path_line(SYSTEM, saying, [], [(end, number)])
                    self.assertEqual(self.judge(SYSTEM, saying, (line,)), is_state(SYSTEM, saying, [], (end, number)))

    def test_rooms_and_states_just_beyond(self):
        for saying in FORMS:
            if saying[0] not in ("some", "all"):
                continue
            paper = readers_paper(SYSTEM, saying)
            machine, table = paper[-1]
            many = 2 if saying[1] in ("met", "earlier") else len(paper[-2][0][1])
            for state, room in table:
                for pair in ((many, 0), (many, 1), (many - 1, 2), (many + 5, 0)):
                    further = ((state[0], state[1] + (pair,)), room)
                    self.bad(SYSTEM, saying, with_line(paper, len(paper) - 1, table=table + (further,)))
                for pair in ((-1, 0), (-1, 1), (0, -1)):
                    further = ((state[0], (pair,) + state[1]), room)
                    self.bad(SYSTEM, saying, with_line(paper, len(paper) - 1, table=table + (further,)))

    def test_other_machines_that_are_right(self):
        rng = random.Random(107)
        for system in (SYSTEM, SYSTEMS[3], SYSTEMS[4]):
            for saying in FORMS + (("and", ("some", "ends", ON), ("not", ("all", "around", POINT))),):
                lines = []
                for part, places in naive.parts(saying):
                    machines = [lines[k][0] for k in places]
                    lines.append(naive.plain_path_line(system, part, machines, []))
                if max(len(machine[1]) for machine, _ in lines) > 60:
                    continue
                paper = tuple(lines)
                self.assertTrue(self.judge(system, saying, paper))
                at = rng.randrange(len(paper))
                (letters, rows, lets), table = paper[at]
                state, room = rng.choice(table)
                self.judge(system, saying, with_line(paper, at, table=table + ((state, room),)))
                room = rng.randrange(len(rows))
                row = tuple(rng.randrange(len(rows)) for _ in letters)
                self.judge(system, saying, with_line(paper, at, (letters, rows[:room] + (row,) + rows[room + 1:], lets)))

    def test_further_states_that_no_row_has(self):
        rng = random.Random(108)
        right = 0
        for _ in range(400):
            system = rng.choice(SYSTEMS)
            saying = rng.choice(FORMS + (("and", ("some", "ends", ON), POINT),))
            paper = readers_paper(system, saying)
            part, places = naive.parts(saying)[-1]
            machines = [paper[place][0] for place in places]
            extra = [state for state in self.random_states(rng, system, part, machines)
                     if is_state(system, part, machines, state)]
            line = naive.plain_path_line(system, part, machines, extra)
            if len(line[0][1]) > 60:
                continue
            self.assertTrue(self.judge(system, saying, paper[:-1] + (line,)))
            right += len(line[1]) > len(paper[-1][1])
            # Without one of its states it does not go on.
            (letters, rows, lets), table = line
            k = rng.randrange(len(table))
            self.judge(system, saying, paper[:-1] + (((letters, rows, lets), table[:k] + table[k + 1:]),))
            turned = tuple(sorted(set(lets) ^ {table[k][1]}))
            self.bad(system, saying, paper[:-1] + (((letters, rows, turned), table),))
        self.assertGreater(right, 100)

    def random_states(self, rng, system, part, machines):
        """Some values that may be states, most of them of no row."""
        for _ in range(2):
            end = rng.randrange(-1, len(system[0]))
            if part[0] in ("some", "all"):
                most = max(len(machines[0][1]), len(system[0]))
                every = list(itertools.product(range(most), (0, 1)))
                yield (end, tuple(sorted(rng.sample(every, rng.randint(0, 2)))))
            elif part[0] in ("point", "fact"):
                yield (end, rng.randint(0, 2))
            else:
                yield (end,) + tuple(rng.randrange(len(machine[1])) for machine in machines)


if __name__ == "__main__":
    unittest.main()
