"""The interface: each name in its file, with its parameters; each method in the body of its class."""

import ast
import importlib
import inspect
import pathlib
import unittest

from spansay import errors

FOLDER = pathlib.Path(__file__).resolve().parent.parent / "spansay"

FUNCTIONS = {
    "scenes": ("is_word(text)", "check_facts(facts)", "check_run(facts, run)", "scenes_of(facts)", "run_text(run)",
               "read_run(facts, text)"),
    "sayings": ("check_saying(facts, saying)", "count_nodes(saying)", "depth_of(saying)", "ways_in(saying)"),
    "sayingtexts": ("saying_text(saying)", "read_saying(facts, text)"),
    "meaning": ("reached(many, way, first, last)", "holds(run, saying, first, last)", "keeps(run, saying)"),
    "machines": ("check_machine(machine)", "room_behind(machine, row)", "lets_by(machine, row)", "least_machine(machine)",
                 "joined(first, second, word)", "first_row(machine)", "first_apart(first, second)", "count_rows(machine, many)"),
    "blocks": ("marks_of(facts)", "marked(run, first, last)", "blocks_of(way)", "next_blocks(way, at)", "may_end(way, at)"),
    "takers": ("taker_of(facts, saying)",),
    "takerpapers": ("paper_of(facts, saying)", "judge_paper(facts, saying, paper)"),
    "least": ("machine_of(facts, saying)", "first_kept(facts, saying)", "first_parting(facts, first, second)",
              "are_alike(facts, first, second)", "count_kept(facts, saying, many)"),
    "why": ("paper_of(run, saying, first, last)", "judge_paper(run, saying, first, last, yes, paper)"),
    "types": ("check_ways(ways)", "types_of(runs, ways, depth)", "parted_at(first, second, ways)"),
    "parting": ("parting_of(first, second, ways)", "judge_parting(first, second, ways, chain)"),
    "classes": ("types_machine(facts, ways, depth)", "class_runs(facts, ways, depth)", "class_of(facts, ways, depth, run)",
                "kind_behind(machine, row)"),
    "rounds": ("deed_of(machine, row)", "deeds_of(machine)", "first_round(machine)", "judge_round(machine, room, row, times)"),
    "chains": ("check_chain(facts, chain)", "check_future(facts, chain)", "chain_holds(run, chain, first, last)",
               "keeps_chain(run, chain)", "future_at(run, chain, place)", "keeps_future(run, chain)", "chain_depth(chain)",
               "chain_ways(chain)", "chain_of(saying)", "saying_of(chain)", "stretched(chain)"),
    "made": ("made_of(facts, machine)", "first_unlike(facts, machine, chain)", "count_views(facts, machine, chain)"),
    "systems": ("check_system(facts, system)", "is_path(system, row)", "is_track(system, row)", "run_of(system, row)",
                "machine_of_runs(facts, system)"),
    "keeps": ("pairs_of(system, machine)", "all_keep(facts, system, saying)", "some_keeps(facts, system, saying)",
              "judge_pairs(facts, system, machine, pairs, is_let)", "judge_track(facts, system, machine, track, is_let)",
              "count_tracks(facts, system, machine, many)", "first_own_run(facts, first, second)"),
    "tracks": ("ways_between(system, way, one, other)", "reader_of(system, saying)", "holds_of(system, saying, path)"),
    "trackpapers": ("readers_paper(system, saying)", "judge_readers(system, saying, paper)"),
    "readings": ("first_parted(facts, system, saying)", "first_told(system, saying, holds)", "count_told(system, saying, many)"),
    "store": ("load_store(text)",),
    "desk": ("run_script(script)",),
    "games": ("check_game(facts, game)", "choices_of(facts, game, player)", "solve(facts, game, saying)",
              "judge_win(facts, game, machine, player, paper)", "least_places(facts, game, saying)"),
    "near": ("check_prices(facts, prices)", "mended(facts, run, mend)", "price_of(facts, prices, run, mend)",
             "distance(facts, prices, run, machine)", "first_nearest(facts, prices, run, machine)",
             "count_nearest(facts, prices, run, machine)"),
    "nearpapers": ("bounds_of(facts, prices, run, machine)",
                   "judge_nearest(facts, prices, run, machine, price, mend, bounds)"),
    "covers": ("components_of(facts, machine)", "is_behind(facts, machine, k, j)", "takes(facts, machine, k, row)",
               "first_untaken(facts, first, k, second, j)", "bounded(facts, first, second)",
               "judge_bounded(facts, first, second, paper)", "judge_unbounded(facts, first, second, paper)"),
    "worst": ("worst(facts, prices, first, second)",),
    "ratios": ("lowest(a, b)", "is_ratio(value)", "plus(first, second)", "times(first, second)", "compare(first, second)"),
    "gambles": ("check_gamble(facts, gamble)", "is_plain(gamble)", "system_of(gamble)"),
    "chances": ("pairs_met(facts, gamble, machine)", "greatest_at(facts, gamble, machine, many)",
                "least_at(facts, gamble, machine, many)"),
    "ever": ("settled_rooms(machine, well)", "greatest_ever(facts, gamble, machine, goals)",
             "least_ever(facts, gamble, machine, goals)", "judge_greatest(facts, gamble, machine, goals, paper)",
             "judge_least(facts, gamble, machine, goals, paper)", "chance_of(facts, gamble, machine, paper)"),
    "likeness": ("classes_had(facts, ways, depth, system)", "apart(facts, ways, depth, first, second)",
                 "apart_at(facts, ways, first, second, most)", "chain_apart(facts, ways, depth, first, second)",
                 "judge_apart(facts, ways, depth, keeper, other, chain, track)"),
    "sights": ("check_sight(facts, sight)", "choices_for(sight)", "glimpses_of(sight)", "others_of(facts, sight)",
               "glimpse_of(sight, choice)"),
    "knowledge": ("solve_sight(facts, sight, saying)", "judge_sight(facts, sight, machine, player, paper)",
                  "count_positions(facts, sight, machine)"),
    "builders": ("check_builder(facts, sight, builder)", "pairs_played(facts, sight, machine, builder)",
                 "wrong_of(facts, sight, machine, builder)", "judge_wrong(facts, sight, machine, builder, stem, cycle)",
                 "builder_of(facts, sight, machine, paper)", "system_of(facts, sight, builder)"),
    "fewest": ("fewest(facts, sight, saying, most)", "too_few(facts, sight, machine, number)",
               "judge_too_few(facts, sight, machine, number, tree)"),
}
CLASSES = {
    "plays": ("Play(run, saying, first, last)", "position()", "turn()", "choices()", "made()", "choose(choice)", "winner()",
              "advice()", "back()"),
    "contests": ("Contest(first, second, ways, rounds)", "stretches()", "left()", "to_choose()", "winner()", "options()",
                 "advice()", "choose(choice)", "back()", "choices()"),
    "watchers": ("Watcher(facts, sayings)", "read(scene)", "back()", "run()", "many()", "keeps(k)", "at_one()", "settled(k)",
                 "rest_to_keep(k)", "rest_to_break(k)", "rest_to_part(k, j)", "count_rests(k, many)", "copy()"),
    "store": ("Store(facts, system)", "facts()", "system()", "kept()", "changes()", "image()", "keep(saying)", "let(number)",
              "add_state(scene)", "drop_state(state)", "set_scene(state, scene)", "set_first(state, is_first)",
              "set_move(state, after, is_there)", "undo()", "copy()"),
    "players": ("Player(facts, game, machine, player, paper)", "now()", "take(choice)", "is_over()", "run()", "kept()", "back()"),
    "builders": ("Run(facts, sight, builder)", "now()", "take(choice)", "run()", "room()", "back()"),
}
CONSTANTS = {
    "scenes": {"MAX_WORD": 8, "MAX_FACTS": 3, "MAX_RUN": 40, "MAX_RUN_TEXT": 2000},
    "sayings": {"MAX_NODES": 30}, "sayingtexts": {"MAX_SAYING_TEXT": 1000, "MAX_GROUPS": 40},
    "machines": {"MAX_ROOMS": 60, "MAX_LETTERS": 24, "MAX_SETS": 400, "MAX_LENGTH": 200},
    "why": {"MAX_PAPER": 3000}, "types": {"MAX_DEPTH": 6}, "parting": {"MAX_PARTING": 300}, "rounds": {"MAX_DEEDS": 2000},
    "chains": {"MAX_LINES": 20000, "MAX_CHAIN": 250000}, "made": {"MAX_TABLE": 16, "MAX_VIEWS": 3000},
    "systems": {"MAX_STATES": 8}, "watchers": {"MAX_READ": 5000, "MAX_WATCHED": 6},
    "store": {"MAX_KEPT": 6, "MAX_NUMBER": 999999, "MAX_IMAGE": 12000}, "desk": {"MAX_SCRIPT": 4000, "MAX_LINES": 60},
    "near": {"MAX_PRICE": 99, "MAX_NEAR": 4000}, "covers": {"MAX_TAKEN": 2000}, "worst": {"MAX_VECTORS": 3000},
    "gambles": {"MAX_PART": 1000, "MAX_OPTIONS": 4}, "chances": {"MAX_PAIRS": 60}, "likeness": {"MAX_APART": 2000},
    "sights": {"AIMS": ("always", "once", "often")}, "knowledge": {"MAX_POSITIONS": 600}, "builders": {"MAX_BUILDER": 601},
    "fewest": {"MAX_FEWEST": 4, "MAX_TREE": 3000},
    "games": {"GOALS": ("always", "once", "often", "lastly"), "PLAYERS": ("builder", "breaker")},
}


def module(name):
    return importlib.import_module(f"spansay.{name}")


def body(name):
    return ast.parse((FOLDER / f"{name}.py").read_text()).body


def shown(node):
    """A function as the interface lists it, without the parameter of the object."""
    names = [part.arg for part in node.args.args if part.arg != "self"]
    return f"{node.name}({', '.join(names)})"


class InterfaceTest(unittest.TestCase):
    def test_functions_stand_in_their_files(self):
        for name, lines in FUNCTIONS.items():
            found = {shown(node) for node in body(name) if isinstance(node, ast.FunctionDef)}
            self.assertLessEqual(set(lines), found, name)
            for line in lines:
                function = getattr(module(name), line.split("(")[0])
                self.assertEqual(function.__module__, f"spansay.{name}")

    def test_classes_and_their_methods_stand_in_their_files(self):
        for name, (first, *lines) in CLASSES.items():
            title = first.split("(")[0]
            node = next(part for part in body(name) if isinstance(part, ast.ClassDef) and part.name == title)
            found = {shown(part) for part in node.body if isinstance(part, ast.FunctionDef)}
            self.assertLessEqual(set(lines), found, name)
            self.assertIn("__init__" + first[len(title):], found)

    def test_parameters_can_be_named(self):
        for name, lines in FUNCTIONS.items():
            for line in lines:
                title, rest = line[:-1].split("(")
                parameters = inspect.signature(getattr(module(name), title)).parameters
                self.assertEqual(", ".join(parameters), rest)

    def test_constants(self):
        for name, values in CONSTANTS.items():
            for title, value in values.items():
                self.assertEqual(getattr(module(name), title), value)
                self.assertIs(type(getattr(module(name), title)), type(value))

    def test_errors(self):
        self.assertTrue(issubclass(errors.SpanError, ValueError))
        for title in ("NotAllowed", "TooLarge", "Missing", "BadPaper", "Broken", "BadForm"):
            self.assertEqual(getattr(errors, title).__bases__, (errors.SpanError,))
        broken = errors.Broken(3, ((),))
        self.assertEqual((broken.number, broken.run, errors.BadForm(2).line), (3, ((),), 2))


if __name__ == "__main__":
    unittest.main()
