"""[0.2], [1.1]: arguments stay as they were, what is returned may be changed, and results have their kinds."""

import copy
import unittest

from spansay import (
    blocks, builders, chains, chances, classes, contests, covers, desk, ever, fewest, gambles, games, keeps, knowledge, least,
    likeness, machines, made, meaning, near, nearpapers, parting, plays, players, ratios, readings, rounds, sayings, sayingtexts,
    scenes, sights, store, systems, takerpapers, takers, trackpapers, tracks, types, watchers, why, worst,
)
from spansay.least import machine_of
from spansay.store import Store, load_store
from spansay.watchers import Watcher
from tests import naive
from tests.test_interface import CLASSES, FUNCTIONS

FACTS = ("on", "up")
ON = ("fact", "on")
SAYING = ("some", "ends", ON)
SYSTEM = (((), ("on",)), (0,), ((0, 1), (1,)))
RUN = (("on",), (), ("on", "up"))
OTHER = (("on",), ())
CHAIN = (ON, ("some", "ends", 0))
FUTURE = (("here", "on"), ("until", 0, 0))
WAYS = ("begins",)
GAME = (("on",), "builder", "once")
PRICES = (4, 3, (2, 9))
MEND = (("stay",), ("leave",), ("put", ()), ("turn", ("on",)))
HALF, ONE = (1, 2), (1, 1)
GAMBLE = (((), ("on",)), ((0, ONE),), ((((0, HALF), (1, HALF)),), (((1, ONE),), ((0, ONE),))))
SIGHT = (("on",), ("up",), "breaker", "always")
TURN = ((0, 1), ((0, 1), (1, 0)), (1,))
BUILDER = ((((), ("on",)), (0, 0)),)
SAME = ("or", ("and", ON, ("fact", "up")), ("and", ("not", ON), ("not", ("fact", "up"))))
EVERY = ("or", ("point",), ("not", ("point",)))
SCRIPT = "facts on up\nadd on\nmove 0 1\nkeep not on or point\nrun on;-\nwhy 0 1 some ends not on\nup"
# Functions and methods that return True or False, and those in whose results such values stand.
TELL_IF = {
    "is_word", "holds", "keeps", "lets_by", "may_end", "are_alike", "chain_holds", "keeps_chain", "future_at", "keeps_future",
    "is_path", "is_track", "ways_between", "holds_of", "is_behind", "takes", "is_ratio", "is_plain",
}


def earlier_calls():
    machine = machine_of(FACTS, SAYING)
    paper = takerpapers.paper_of(("on",), SAYING)
    yes, shown = why.paper_of(RUN, SAYING, 0, 2)
    return (
        (scenes.is_word, "on"), (scenes.check_facts, FACTS), (scenes.check_run, FACTS, RUN), (scenes.scenes_of, FACTS),
        (scenes.run_text, RUN), (scenes.read_run, FACTS, "on ; -"), (sayings.check_saying, FACTS, SAYING),
        (sayings.count_nodes, SAYING), (sayings.depth_of, SAYING), (sayings.ways_in, SAYING), (sayingtexts.saying_text, SAYING),
        (sayingtexts.read_saying, FACTS, "some ends on"), (meaning.reached, 3, "begins", 0, 2), (meaning.holds, RUN, SAYING, 0, 2),
        (meaning.keeps, RUN, SAYING), (machines.check_machine, machine), (machines.room_behind, machine, RUN),
        (machines.lets_by, machine, RUN), (machines.least_machine, machine), (machines.joined, machine, machine, "and"),
        (machines.first_row, machine), (machines.first_apart, machine, machine), (machines.count_rows, machine, 2),
        (blocks.marks_of, FACTS), (blocks.marked, RUN, 0, 1), (blocks.blocks_of, "meets"), (blocks.next_blocks, "meets", -1),
        (blocks.may_end, "meets", 2), (takers.taker_of, FACTS, SAYING), (takerpapers.paper_of, FACTS, SAYING),
        (takerpapers.judge_paper, ("on",), SAYING, paper), (least.machine_of, FACTS, SAYING), (least.first_kept, FACTS, SAYING),
        (least.first_parting, FACTS, SAYING, ON), (least.are_alike, FACTS, SAYING, ON), (least.count_kept, FACTS, SAYING, 2),
        (why.paper_of, RUN, SAYING, 0, 2), (why.judge_paper, RUN, SAYING, 0, 2, yes, shown), (types.check_ways, WAYS),
        (types.types_of, (RUN, OTHER), WAYS, 1), (types.parted_at, RUN, OTHER, WAYS), (plays.Play, RUN, SAYING, 0, 2),
        (contests.Contest, RUN, OTHER, WAYS, 2),
    )


def later_calls():
    machine = machine_of(FACTS, SAYING)
    alone = machine_of(FACTS, ON)
    every = machine_of(FACTS, EVERY)
    player, _, win = games.solve(FACTS, GAME, SAYING)
    bounds = nearpapers.bounds_of(FACTS, PRICES, RUN, machine)
    mend = near.first_nearest(FACTS, PRICES, RUN, machine)[1]
    price = near.distance(FACTS, PRICES, RUN, machine)
    bounded, unbounded = covers.bounded(FACTS, alone, every)[1], covers.bounded(FACTS, every, alone)[1]
    single = machine_of(("on",), SAYING)
    great, small = [call(("on",), GAMBLE, single, (1,))[1] for call in (ever.greatest_ever, ever.least_ever)]
    systems_told = ((((),), (0,), ((0,),)), ((("on",),), (0,), ((0,),)))
    keeper, chain, track = likeness.chain_apart(("on",), WAYS, 1, *systems_told)
    sayings_told = ("or", ("point",), ("some", "ends", SAME))
    knower, known, told = knowledge.solve_sight(FACTS, SIGHT, sayings_told)
    wrong = builders.wrong_of(FACTS, SIGHT, alone, BUILDER)
    theirs = machine_of(FACTS, ("fact", "up"))
    tree = fewest.too_few(FACTS, SIGHT, theirs, 1)
    return (
        (desk.run_script, SCRIPT), (players.Player, FACTS, GAME, machine, player, win),
        (nearpapers.bounds_of, FACTS, PRICES, RUN, machine),
        (nearpapers.judge_nearest, FACTS, PRICES, RUN, machine, price, mend, bounds), (covers.components_of, FACTS, machine),
        (covers.is_behind, FACTS, machine_of(FACTS, ("not", ON)), 0, 1), (covers.takes, FACTS, machine, 0, RUN),
        (covers.first_untaken, FACTS, every, 0, alone, 0), (covers.bounded, FACTS, every, alone),
        (covers.judge_bounded, FACTS, alone, every, bounded), (covers.judge_unbounded, FACTS, every, alone, unbounded),
        (worst.worst, FACTS, PRICES, every, machine), (ratios.lowest, 6, -4), (ratios.is_ratio, (2, 4)),
        (ratios.plus, HALF, ONE), (ratios.times, HALF, ONE), (ratios.compare, HALF, ONE), (gambles.check_gamble, ("on",), GAMBLE),
        (gambles.is_plain, GAMBLE), (gambles.system_of, GAMBLE), (chances.pairs_met, ("on",), GAMBLE, single),
        (chances.greatest_at, ("on",), GAMBLE, single, 3), (chances.least_at, ("on",), GAMBLE, single, 3),
        (ever.settled_rooms, machine, True), (ever.greatest_ever, ("on",), GAMBLE, single, (1,)),
        (ever.least_ever, ("on",), GAMBLE, single, (1,)), (ever.judge_greatest, ("on",), GAMBLE, single, (1,), great),
        (ever.judge_least, ("on",), GAMBLE, single, (1,), small), (ever.chance_of, ("on",), GAMBLE, single, great),
        (likeness.classes_had, ("on",), WAYS, 1, SYSTEM), (likeness.apart, ("on",), WAYS, 1, *systems_told),
        (likeness.apart_at, ("on",), WAYS, *systems_told, 2), (likeness.chain_apart, ("on",), WAYS, 1, *systems_told),
        (likeness.judge_apart, ("on",), WAYS, 1, systems_told[keeper], systems_told[1 - keeper], chain, track),
        (sights.check_sight, FACTS, SIGHT), (sights.choices_for, SIGHT), (sights.glimpses_of, SIGHT),
        (sights.others_of, FACTS, SIGHT), (sights.glimpse_of, SIGHT, ("up",)), (knowledge.solve_sight, FACTS, SIGHT, sayings_told),
        (knowledge.judge_sight, FACTS, SIGHT, known, knower, told), (knowledge.count_positions, FACTS, SIGHT, known),
        (builders.check_builder, FACTS, SIGHT, BUILDER), (builders.pairs_played, FACTS, SIGHT, machine, BUILDER),
        (builders.wrong_of, FACTS, SIGHT, alone, BUILDER), (builders.judge_wrong, FACTS, SIGHT, alone, BUILDER, *wrong),
        (builders.builder_of, FACTS, SIGHT, known, told), (builders.system_of, FACTS, SIGHT, BUILDER),
        (builders.Run, FACTS, SIGHT, BUILDER), (fewest.fewest, FACTS, SIGHT, EVERY, 1), (fewest.too_few, FACTS, SIGHT, theirs, 1),
        (fewest.judge_too_few, FACTS, SIGHT, theirs, 1, tree),
    )


def calls():
    return earlier_calls() + stage_calls() + later_calls()


def stage_calls():
    machine = machine_of(FACTS, SAYING)
    every = machine_of(FACTS, EVERY)
    pairs = keeps.pairs_of(SYSTEM, every)
    types = classes.types_machine(FACTS, WAYS, 1)
    paper = trackpapers.readers_paper(SYSTEM, SAYING)
    player, _, win = games.solve(FACTS, GAME, SAYING)
    return (
        (chains.check_chain, FACTS, CHAIN), (chains.check_future, FACTS, FUTURE), (chains.chain_holds, RUN, CHAIN, 0, 1),
        (chains.keeps_chain, RUN, CHAIN), (chains.future_at, RUN, FUTURE, 1), (chains.keeps_future, RUN, FUTURE),
        (chains.chain_depth, CHAIN), (chains.chain_ways, CHAIN), (chains.chain_of, SAYING), (chains.saying_of, CHAIN),
        (chains.stretched, FUTURE), (parting.parting_of, RUN, OTHER, WAYS),
        (parting.judge_parting, RUN, OTHER, ("ends",), CHAIN), (classes.types_machine, FACTS, WAYS, 1),
        (classes.class_runs, FACTS, WAYS, 1), (classes.class_of, FACTS, WAYS, 1, RUN),
        (classes.kind_behind, types, naive.marked(RUN, 0, 1)), (rounds.deed_of, machine, RUN), (rounds.deeds_of, machine),
        (rounds.first_round, machine), (made.made_of, FACTS, machine), (made.first_unlike, FACTS, machine, FUTURE),
        (made.count_views, FACTS, machine, FUTURE), (systems.check_system, FACTS, SYSTEM),
        (systems.is_path, SYSTEM, (0, 1)), (systems.is_track, SYSTEM, (0, 1)), (systems.run_of, SYSTEM, (0, 1)),
        (systems.machine_of_runs, FACTS, SYSTEM), (keeps.pairs_of, SYSTEM, machine), (keeps.all_keep, FACTS, SYSTEM, SAYING),
        (keeps.some_keeps, FACTS, SYSTEM, SAYING), (keeps.judge_track, FACTS, SYSTEM, machine, (0, 1), True),
        (keeps.count_tracks, FACTS, SYSTEM, machine, 3), (keeps.first_own_run, FACTS, SYSTEM, (((),), (0,), ((0,),))),
        (tracks.ways_between, SYSTEM, "overlaps", (0, 0), (0, 1)), (tracks.reader_of, SYSTEM, SAYING),
        (tracks.holds_of, SYSTEM, SAYING, (0, 1)), (trackpapers.readers_paper, SYSTEM, SAYING),
        (trackpapers.judge_readers, SYSTEM, SAYING, paper), (readings.first_parted, FACTS, SYSTEM, SAYING),
        (readings.first_told, SYSTEM, SAYING, True), (readings.count_told, SYSTEM, SAYING, 3),
        (games.check_game, FACTS, GAME), (games.choices_of, FACTS, GAME, "builder"), (games.solve, FACTS, GAME, SAYING),
        (games.judge_win, FACTS, GAME, machine, player, win), (games.least_places, FACTS, GAME, SAYING),
        (near.check_prices, FACTS, PRICES), (near.mended, FACTS, RUN, MEND), (near.price_of, FACTS, PRICES, RUN, MEND),
        (near.distance, FACTS, PRICES, RUN, machine), (near.first_nearest, FACTS, PRICES, RUN, machine),
        (near.count_nearest, FACTS, PRICES, RUN, machine), (Store, FACTS, SYSTEM), (Watcher, FACTS, (SAYING,)),
        (load_store, "store 1\nfact on\nfirst -\nto -\n"), (keeps.judge_pairs, FACTS, SYSTEM, every, pairs, True),
        (rounds.judge_round, TURN, 0, (1,), 2),
    )


class ArgumentsTest(unittest.TestCase):
    def test_arguments_stay_as_they_were(self):
        for call, *arguments in calls():
            kept = copy.deepcopy(arguments)
            call(*arguments)
            self.assertEqual(arguments, kept, call.__name__)

    def test_the_same_is_told_again(self):
        for call, *arguments in calls():
            if isinstance(call, type) or call is load_store:
                continue
            told = call(*arguments)
            expected = copy.deepcopy(told)
            if isinstance(told, list):
                told.clear()
            self.assertEqual(call(*arguments), expected, call.__name__)

    def test_lists_of_stores(self):
        store = Store(FACTS, SYSTEM)
        store.keep(("or", ("point",), ("not", ("point",))))
        image = store.image()
        for _ in range(2):
            store.kept().append(None)
            self.assertEqual(store.image(), image)
        self.assertEqual(load_store(image).kept(), store.kept())


class KindsTest(unittest.TestCase):
    def test_all_functions_and_classes_are_called(self):
        called = {(call.__module__, call.__name__) for call, *_ in calls()}
        for table in (FUNCTIONS, {name: lines[:1] for name, lines in CLASSES.items()}):
            for name, lines in table.items():
                for line in lines:
                    self.assertIn((f"spansay.{name}", line.split("(")[0]), called)

    def check_kinds(self, value, title):
        """Integers, texts, tuples and lists of these, and no True or False among them."""
        self.assertIn(type(value), (int, str, tuple, list, type(None)), title)
        if isinstance(value, (tuple, list)):
            for part in value:
                self.check_kinds(part, title)

    def test_kinds_of_results(self):
        for call, *arguments in calls():
            if isinstance(call, type) or call is load_store:
                continue
            told = call(*arguments)
            if call.__name__ in TELL_IF:
                self.assertIn(type(told), (bool,), call.__name__)
                continue
            if call is why.paper_of:
                self.assertIs(type(told[0]), bool)
                told = told[1]
            if call.__name__.startswith(("check", "judge")):
                self.assertIsNone(told, call.__name__)
            self.check_kinds(told, call.__name__)

    def test_lists_of_plays(self):
        play = plays.Play(RUN, SAYING, 0, 2)
        contest = contests.Contest(RUN, OTHER, WAYS, 2)
        for one, methods in ((play, ("choices", "made")), (contest, ("options",))):
            for title in methods:
                expected = list(getattr(one, title)())
                getattr(one, title)().clear()
                self.assertEqual(getattr(one, title)(), expected)

    def test_an_error_changes_nothing(self):
        watcher = watchers.Watcher(FACTS, (SAYING,))
        shelf = store.Store(FACTS, SYSTEM)
        for _ in range(2):
            with self.assertRaises(ValueError):
                watcher.read(("x",))
            with self.assertRaises(ValueError):
                shelf.set_scene(9, ())
        self.assertEqual((watcher.run(), shelf.changes()), ((), 0))


if __name__ == "__main__":
    unittest.main()
