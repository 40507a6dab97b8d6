"""[1.1]: arguments stay as they were, and what is returned may be changed without effect."""

import copy
import unittest

from spansay import (
    chains, classes, games, keeps, made, near, parting, readings, rounds, systems, trackpapers, tracks,
)
from spansay.least import machine_of
from spansay.store import Store, load_store
from spansay.watchers import Watcher
from tests import naive

FACTS = ("on", "up")
ON = ("fact", "on")
SAYING = ("some", "ends", ON)
SYSTEM = (((), ("on",)), (0,), ((0, 1), (1,)))
RUN = (("on",), (), ("on", "up"))
OTHER = (("on",), ())
CHAIN = (ON, ("some", "ends", 0))
FUTURE = (("here", "on"), ("until", 0, 0))
WAYS = ("begins",)
GAME = (("on",), "builder", "once")
PRICES = (4, 3, (2, 9))
MEND = (("stay",), ("leave",), ("put", ()), ("turn", ("on",)))


def calls():
    machine = machine_of(FACTS, SAYING)
    types = classes.types_machine(FACTS, WAYS, 1)
    paper = trackpapers.readers_paper(SYSTEM, SAYING)
    player, _, win = games.solve(FACTS, GAME, SAYING)
    return (
        (chains.check_chain, FACTS, CHAIN), (chains.check_future, FACTS, FUTURE), (chains.chain_holds, RUN, CHAIN, 0, 1),
        (chains.keeps_chain, RUN, CHAIN), (chains.future_at, RUN, FUTURE, 1), (chains.keeps_future, RUN, FUTURE),
        (chains.chain_depth, CHAIN), (chains.chain_ways, CHAIN), (chains.chain_of, SAYING), (chains.saying_of, CHAIN),
        (chains.stretched, FUTURE), (parting.parting_of, RUN, OTHER, WAYS),
        (parting.judge_parting, RUN, OTHER, ("ends",), CHAIN), (classes.types_machine, FACTS, WAYS, 1),
        (classes.class_runs, FACTS, WAYS, 1), (classes.class_of, FACTS, WAYS, 1, RUN),
        (classes.kind_behind, types, naive.marked(RUN, 0, 1)), (rounds.deed_of, machine, RUN), (rounds.deeds_of, machine),
        (rounds.first_round, machine), (made.made_of, FACTS, machine), (made.first_unlike, FACTS, machine, FUTURE),
        (made.count_views, FACTS, machine, FUTURE), (systems.check_system, FACTS, SYSTEM),
        (systems.is_path, SYSTEM, (0, 1)), (systems.is_track, SYSTEM, (0, 1)), (systems.run_of, SYSTEM, (0, 1)),
        (systems.machine_of_runs, FACTS, SYSTEM), (keeps.pairs_of, SYSTEM, machine), (keeps.all_keep, FACTS, SYSTEM, SAYING),
        (keeps.some_keeps, FACTS, SYSTEM, SAYING), (keeps.judge_track, FACTS, SYSTEM, machine, (0, 1), True),
        (keeps.count_tracks, FACTS, SYSTEM, machine, 3), (keeps.first_own_run, FACTS, SYSTEM, (((),), (0,), ((0,),))),
        (tracks.ways_between, SYSTEM, "overlaps", (0, 0), (0, 1)), (tracks.reader_of, SYSTEM, SAYING),
        (tracks.holds_of, SYSTEM, SAYING, (0, 1)), (trackpapers.readers_paper, SYSTEM, SAYING),
        (trackpapers.judge_readers, SYSTEM, SAYING, paper), (readings.first_parted, FACTS, SYSTEM, SAYING),
        (readings.first_told, SYSTEM, SAYING, True), (readings.count_told, SYSTEM, SAYING, 3),
        (games.check_game, FACTS, GAME), (games.choices_of, FACTS, GAME, "builder"), (games.solve, FACTS, GAME, SAYING),
        (games.judge_win, FACTS, GAME, machine, player, win), (games.least_places, FACTS, GAME, SAYING),
        (near.check_prices, FACTS, PRICES), (near.mended, FACTS, RUN, MEND), (near.price_of, FACTS, PRICES, RUN, MEND),
        (near.distance, FACTS, PRICES, RUN, machine), (near.first_nearest, FACTS, PRICES, RUN, machine),
        (near.count_nearest, FACTS, PRICES, RUN, machine), (Store, FACTS, SYSTEM), (Watcher, FACTS, (SAYING,)),
    )


class ArgumentsTest(unittest.TestCase):
    def test_arguments_stay_as_they_were(self):
        for call, *arguments in calls():
            kept = copy.deepcopy(arguments)
            call(*arguments)
            self.assertEqual(arguments, kept, call.__name__)

    def test_the_same_is_told_again(self):
        for call, *arguments in calls():
            if call in (Store, Watcher):
                continue
            told = call(*arguments)
            expected = copy.deepcopy(told)
            if isinstance(told, list):
                told.clear()
            self.assertEqual(call(*arguments), expected, call.__name__)

    def test_lists_of_stores(self):
        store = Store(FACTS, SYSTEM)
        store.keep(("or", ("point",), ("not", ("point",))))
        image = store.image()
        for _ in range(2):
            store.kept().append(None)
            self.assertEqual(store.image(), image)
        self.assertEqual(load_store(image).kept(), store.kept())


if __name__ == "__main__":
    unittest.main()
