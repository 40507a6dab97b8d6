"""made.py: [5.3], [5.7], [5.8]."""

import itertools
import random
import unittest

from spansay.chains import MAX_LINES, check_future, keeps_future
from spansay.errors import Missing, NotAllowed, TooLarge
from spansay.least import machine_of
from spansay.machines import least_machine
from spansay.made import MAX_TABLE, MAX_VIEWS, count_views, first_unlike, made_of
from spansay.rounds import first_round
from tests import naive

ON = ("on",)
FACTS = ("on", "up", "x")


def machine_with(facts, columns, lets):
    """The machine over the scenes with a column for each scene: a room for each room."""
    return (tuple(naive.scenes(facts)), tuple(zip(*columns)), lets)


def count_of_on(many):
    """The machine over one fact that lets by the runs with `many` places or more that are on."""
    return machine_with(ON, (range(many + 1), [min(at + 1, many) for at in range(many + 1)]), (many,))


def chains_of_rooms(*lengths):
    """A machine over three facts: three of its scenes go on in chains of rooms of their own."""
    starts = [sum(lengths[:k]) for k in range(len(lengths))]
    many = sum(lengths)
    columns = []
    for k in range(8):
        column = list(range(many))
        if 1 <= k <= len(lengths):
            for at in range(lengths[k - 1] - 1):
                column[starts[k - 1] + at] += 1
        columns.append(column)
    return machine_with(FACTS, columns, (0,))


def random_machine(rng, facts):
    many = rng.randint(2, 5)
    columns = []
    for _ in naive.scenes(facts):
        style = rng.randint(0, 2)
        if style == 0:
            columns.append([min(at + rng.randint(0, 1), many - 1) for at in range(many)])
        elif style == 1:
            columns.append([at if rng.random() < 0.6 else rng.randrange(many) for at in range(many)])
        else:
            columns.append([rng.randrange(many) for _ in range(many)])
    return machine_with(facts, columns, tuple(at for at in range(many) if rng.random() < 0.5))


def count_deeds(machine):
    deeds = {tuple(range(len(machine[1])))}
    waiting = list(deeds)
    while waiting:
        deed = waiting.pop()
        for at in range(len(machine[0])):
            after = tuple(machine[1][room][at] for room in deed)
            if after not in deeds:
                deeds.add(after)
                waiting.append(after)
    return len(deeds)


def slow_views(facts, machine, chain):
    """The first runs of all views, in the order in which they are met."""
    met = {}
    level = [()]
    while level:
        coming = []
        for scene in naive.scenes(facts):
            for rest in level:
                run = (scene,) + rest
                view = (tuple(row[0] for row in naive.future_table(run, chain)), naive.deed(machine, run))
                if view not in met:
                    met[view] = run
                    coming.append(run)
        level = coming
    return list(met.values())


def runs_up_to(facts, many):
    return itertools.chain(*[naive.runs(facts, length) for length in range(1, many + 1)])


class ExamplesTest(unittest.TestCase):
    def test_examples(self):
        machine = machine_of(ON, ("some", "ends", ("fact", "on")))
        self.assertEqual(first_unlike(ON, machine, (("here", "on"),)), (("on",),))
        self.assertIsNone(first_unlike(ON, machine, made_of(ON, machine)))
        self.assertEqual((MAX_TABLE, MAX_VIEWS), (16, 3000))


class MadeTest(unittest.TestCase):
    def compare(self, facts, machine, most):
        """Compare the chain that is made with its machine; return the number of its lines."""
        chain = made_of(facts, machine)
        check_future(facts, chain)
        self.assertLessEqual(len(chain), MAX_LINES)
        for run in runs_up_to(facts, most):
            self.assertEqual(keeps_future(run, chain), naive.lets(machine, run), (machine, run))
        try:
            self.assertIsNone(first_unlike(facts, machine, chain), machine)
        except TooLarge:
            self.assertEqual(len(facts), 3)
        return len(chain)

    def test_machines_of_sayings(self):
        rng = random.Random(81)
        made = 0
        for _ in range(150):
            facts = FACTS[:rng.randint(1, 2)]
            machine = machine_of(facts, naive.random_saying(rng, facts, rng.randint(1, 9)))
            self.assertIsNone(first_round(machine))
            if count_deeds(machine) <= MAX_TABLE:
                self.compare(facts, machine, 8 // len(facts))
                made += 1
            else:
                with self.assertRaises(TooLarge):
                    made_of(facts, machine)
        self.assertGreater(made, 80)

    def test_random_machines(self):
        rng = random.Random(82)
        found = {"made": 0, "round": 0, "large": 0}
        while min(found.values()) < 40:
            facts = FACTS[:rng.randint(1, 3)]
            machine = random_machine(rng, facts)
            least = least_machine(machine)
            if count_deeds(least) > MAX_TABLE:
                with self.assertRaises(TooLarge):
                    made_of(facts, machine)
                found["large"] += 1
            elif first_round(least) is not None:
                with self.assertRaises(Missing):
                    made_of(facts, machine)
                found["round"] += 1
            elif found["made"] < 80:
                self.compare(facts, machine, (9, 5, 3)[len(facts) - 1])
                found["made"] += 1

    def test_no_runs_and_all_runs(self):
        for lets in ((), (0,)):
            machine = machine_with(ON, ((0,), (0,)), lets)
            self.compare(ON, machine, 5)
        # The empty row is no run: whether it is let by is all the same.
        for lets in ((0,), (1,), (0, 1)):
            self.compare(ON, machine_with(ON, ((1, 1), (1, 1)), lets), 5)

    def test_the_first_place_and_the_last_one(self):
        self.compare(("on", "up"), machine_with(("on", "up"), ((1, 1, 2), (2, 1, 2), (1, 1, 2), (2, 1, 2)), (2,)), 4)
        self.compare(("on", "up"), machine_with(("on", "up"), ((0, 0), (0, 0), (1, 1), (1, 1)), (1,)), 4)

    def test_turns_of_two_letters(self):
        # Just the runs in which the scenes take turns.
        machine = machine_with(ON, ((1, 3, 1, 3), (2, 2, 3, 3)), (1, 2))
        self.compare(ON, machine, 10)

    def test_tables_of_sixteen_deeds_and_seventeen(self):
        for many in (1, 2, 14, 15):
            self.assertEqual(count_deeds(count_of_on(many)), many + 1)
            self.compare(ON, count_of_on(many), 5)
        chain = made_of(ON, count_of_on(15))
        for many in (14, 15, 16):
            run = (("on",), ()) * many + ((),)
            self.assertEqual(keeps_future(run, chain), many >= 15)
        with self.assertRaises(TooLarge):
            made_of(ON, count_of_on(16))

    def test_the_least_machine_counts(self):
        # Twice the same rooms: the least machine has fewer deeds, and no round.
        letters, rows, lets = count_of_on(2)
        turned = tuple(tuple(at + 3 for at in row) for row in rows) + rows
        machine = (letters, turned, lets + (5,))
        self.assertIsNotNone(first_round(machine))
        self.compare(ON, machine, 8)
        letters, rows, lets = count_of_on(1)
        longer = rows + tuple((at, min(at + 1, 39)) for at in range(2, 40))
        self.assertGreater(count_deeds((letters, longer, lets)), MAX_TABLE)
        self.compare(ON, (letters, longer, lets), 6)

    def test_rounds(self):
        even = machine_with(ON, ((0, 1), (1, 0)), (0,))
        with self.assertRaises(Missing):
            made_of(ON, even)
        # TooLarge is named first.
        both = machine_with(ON, ([(at + 1) % 17 for at in range(17)], range(17)), (0,))
        with self.assertRaises(TooLarge):
            made_of(ON, both)

    def test_what_hangs_on_all_scenes(self):
        # The join of all facts that came so far: all eight sets of facts are told apart.
        columns = [[at | scene for at in range(8)] for scene in range(8)]
        for lets in ((7,), (1, 2, 4), (0, 3, 5, 6), (3, 7)):
            self.compare(FACTS, machine_with(FACTS, columns, lets), 3)

    def test_hard_tables(self):
        # Found by search among machines with up to sixteen deeds, for many lines.
        for columns, lets in (
            (("1111", "0001", "1110", "0111", "2233", "1101", "0010", "2233"), (0, 3)),
            (("1233", "0333", "0033", "2313", "3303", "3033", "3333", "3330"), (1, 3)),
            (("1121", "1122", "0033", "0003", "1222", "1111", "2122", "0000"), (2,)),
        ):
            machine = least_machine(machine_with(FACTS, [[int(at) for at in column] for column in columns], lets))
            if first_round(machine) is None and count_deeds(machine) <= MAX_TABLE:
                self.assertLess(self.compare(FACTS, machine, 3), 5000)


class UnlikeTest(unittest.TestCase):
    def test_against_a_plain_search(self):
        rng = random.Random(83)
        alike = 0
        for _ in range(250):
            facts = FACTS[:rng.randint(1, 2)]
            machine = random_machine(rng, facts)
            chain = naive.random_future(rng, facts, rng.randint(1, 7))
            if count_deeds(machine) > 300:
                continue
            views = slow_views(facts, machine, chain)
            self.assertLessEqual(len(views), MAX_VIEWS)
            self.assertEqual(count_views(facts, machine, chain), len(views))
            unlike = [run for run in views if keeps_future(run, chain) != naive.lets(machine, run)]
            found = first_unlike(facts, machine, chain)
            self.assertEqual(found, unlike[0] if unlike else None)
            if unlike:
                for run in runs_up_to(facts, min(4, len(found))):
                    if keeps_future(run, chain) != naive.lets(machine, run):
                        self.assertEqual(found, run)
                        break
            else:
                alike += 1
                for run in runs_up_to(facts, 5):
                    self.assertEqual(keeps_future(run, chain), naive.lets(machine, run))
        self.assertGreater(alike, 3)

    def test_lines_that_are_not_needed_count(self):
        machine = machine_with(ON, ((0,), (0,)), (0,))
        self.assertEqual(count_views(ON, machine, (("yes",),)), 1)
        self.assertEqual(count_views(ON, machine, (("here", "on"), ("yes",))), 2)
        self.assertEqual(count_views(ON, machine, (("here", "on"), ("until", 0, 0), ("yes",))), 4)
        self.assertIsNone(first_unlike(ON, machine, (("here", "on"), ("until", 0, 0), ("yes",))))

    def test_rooms_that_no_row_leads_to_count(self):
        machine = machine_with(ON, ((0, 1, 2), (0, 2, 2)), (0,))
        self.assertEqual(count_views(ON, machine, (("yes",),)), 2)

    def test_three_thousand_views_and_more(self):
        yes = (("yes",),)
        self.assertEqual(count_views(FACTS, chains_of_rooms(10, 15, 20), yes), MAX_VIEWS)
        machine = chains_of_rooms(10, 15, 20)
        machine = machine[:2] + (tuple(range(45)),)
        self.assertIsNone(first_unlike(FACTS, machine, yes))
        large = chains_of_rooms(11, 13, 21)
        with self.assertRaises(TooLarge):
            count_views(FACTS, large, yes)
        with self.assertRaises(TooLarge):
            first_unlike(FACTS, large[:2] + (tuple(range(45)),), yes)
        # One that is found in time is told.
        self.assertEqual(first_unlike(FACTS, large[:2] + (tuple(range(3, 45)),), yes), ((),))
        self.assertEqual(first_unlike(FACTS, large[:2] + (tuple(range(2)) + tuple(range(3, 45)),), yes), (("on",),) * 2)

    def test_all_views_of_three_thousand(self):
        letters, rows, _ = chains_of_rooms(10, 15, 20)
        machine = (letters, rows, tuple(range(45)))
        self.assertIsNone(first_unlike(FACTS, machine, (("yes",),)))
        found = first_unlike(FACTS, (letters, rows, tuple(range(9))), (("yes",),))
        self.assertEqual(found, (("on",),) * 9)

    def test_long_runs(self):
        machine = count_of_on(30)
        self.assertEqual(first_unlike(ON, machine, (("yes",), ("not", 0))), (("on",),) * 30)


class NotAllowedTest(unittest.TestCase):
    def test_letters_that_are_not_the_scenes(self):
        yes = (("yes",),)
        for facts, letters in (
            (ON, (("on",), ())), (ON, ((), ("up",))), (ON, ((),)), (ON, (0, 1)), (("on", "up"), ((), ("on",))),
            (ON, ((), ("on",), ("x",))),
        ):
            machine = (letters, tuple((min(at + 1, 29),) * len(letters) for at in range(30)), (0,))
            for call in (
                lambda: made_of(facts, machine),
                lambda: first_unlike(facts, machine, yes),
                lambda: count_views(facts, machine, yes),
            ):
                with self.assertRaises(NotAllowed):
                    call()


if __name__ == "__main__":
    unittest.main()
