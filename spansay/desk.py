"""The desk: it answers the lines of scripts."""

from spansay.chances import greatest_at
from spansay.classes import class_of
from spansay.deskforms import fields_of
from spansay.errors import BadForm, Broken, Missing, NotAllowed, TooLarge
from spansay.games import solve
from spansay.keeps import all_keep, some_keeps
from spansay.least import are_alike, first_kept, first_parting, machine_of
from spansay.machines import MAX_LENGTH, first_row
from spansay.meaning import holds
from spansay.near import distance, first_nearest
from spansay.readings import first_told
from spansay.sayingtexts import read_saying
from spansay.scenes import read_run, run_text
from spansay.store import Store
from spansay.systems import run_of
from spansay.types import MAX_DEPTH, check_ways
from spansay.watchers import Watcher
from spansay.why import paper_of, size_of

MAX_SCRIPT = 4000
MAX_LINES = 60
NEW_SYSTEM = (((),), (0,), ((),))
SETTLED = ("open", "well", "badly")


class Desk:
    """A desk, with its store and its run, None where there is none."""

    def __init__(self):
        self.store = None
        self.run = None

    def facts(self):
        """Return the facts of the store."""
        return self.store.facts()

    def system(self):
        """Return the system of the store."""
        return self.store.system()

    def saying(self, text):
        """Return the saying of a text."""
        return read_saying(self.store.facts(), text)

    def run_there(self):
        """Return the run."""
        if self.run is None:
            raise Missing("there is no run")
        return self.run


def numbers_text(numbers):
    """Return the text of some numbers."""
    return " ".join([str(number) for number in numbers])


def run_or_none(run):
    """Return the text of a run, or of none."""
    return "none" if run is None else run_text(run)


# Each function from here on answers the lines with the word that it has in ANSWERS. Errors that
# they raise are answered, too: so a text is read ahead of all that may go wrong besides.
def start_store(desk, facts):
    desk.store = Store(facts, NEW_SYSTEM)
    desk.run = None
    return "ok"


def add_state(desk, scene):
    return str(desk.store.add_state(scene))


def set_scene(desk, state, scene):
    desk.store.set_scene(state, scene)
    return "ok"


def make_first(desk, state):
    desk.store.set_first(state, True)
    return "ok"


def make_plain(desk, state):
    desk.store.set_first(state, False)
    return "ok"


def put_move(desk, state, after):
    desk.store.set_move(state, after, True)
    return "ok"


def stop_move(desk, state, after):
    desk.store.set_move(state, after, False)
    return "ok"


def drop_state(desk, state):
    desk.store.drop_state(state)
    return "ok"


def let_go(desk, number):
    desk.store.let(number)
    return "ok"


def take_back(desk):
    desk.store.undo()
    return "ok"


def keep_saying(desk, text):
    return str(desk.store.keep(desk.saying(text)))


def tell_kept(desk):
    numbers = [number for number, _ in desk.store.kept()]
    return numbers_text(numbers) if numbers else "-"


def tell_states(desk):
    return str(len(desk.system()[0]))


def tell_all(desk, text):
    word, _, shown = all_keep(desk.facts(), desk.system(), desk.saying(text))
    return "yes" if word == "all" else "no : " + run_text(run_of(desk.system(), shown))


def tell_some(desk, text):
    word, _, shown = some_keeps(desk.facts(), desk.system(), desk.saying(text))
    return "yes : " + run_text(run_of(desk.system(), shown)) if word == "some" else "no"


def tell_least(desk, text):
    return run_or_none(first_kept(desk.facts(), desk.saying(text)))


def tell_alike(desk, text, other):
    saying = desk.saying(text)
    return "yes" if are_alike(desk.facts(), saying, desk.saying(other)) else "no"


def tell_parted(desk, text, other):
    saying = desk.saying(text)
    return run_or_none(first_parting(desk.facts(), saying, desk.saying(other)))


def set_run(desk, text):
    desk.run = read_run(desk.facts(), text)
    return "ok"


def tell_near(desk, text):
    saying = desk.saying(text)
    run = desk.run_there()
    machine = machine_of(desk.facts(), saying)
    if first_row(machine) is None:
        return "none"
    prices = (1, 1, (1,) * len(desk.facts()))
    nearest, _ = first_nearest(desk.facts(), prices, run, machine)
    return f"{distance(desk.facts(), prices, run, machine)} : {run_text(nearest)}"


def tell_watch(desk, text):
    saying = desk.saying(text)
    run = desk.run_there()
    watcher = Watcher(desk.facts(), (saying,))
    for scene in run:
        watcher.read(scene)
    return SETTLED[watcher.settled(0)]


def tell_class(desk, depth, ways):
    check_ways(ways)
    if depth > MAX_DEPTH:
        raise NotAllowed(f"depths are at most {MAX_DEPTH}")
    return str(class_of(desk.facts(), ways, depth, desk.run_there()))


def tell_branch(desk, text):
    track = first_told(desk.system(), desk.saying(text), False)
    return "yes" if track is None else "no : " + numbers_text(track)


def even_lot(states):
    """Return the lot in which some states have the same chance."""
    return tuple([(state, (1, len(states))) for state in states])


def even_gamble(system):
    """Return the gamble of a system, in which a state without moves stays."""
    scenes, firsts, moves = system
    options = [(even_lot(row if row else (state,)),) for state, row in enumerate(moves)]
    return (scenes, even_lot(firsts), tuple(options))


def tell_chance(desk, many, text):
    saying = desk.saying(text)
    if not 1 <= many <= MAX_LENGTH:
        raise NotAllowed(f"runs whose chance is told have 1 to {MAX_LENGTH} places")
    machine = machine_of(desk.facts(), saying)
    above, below = greatest_at(desk.facts(), even_gamble(desk.system()), machine, many)
    return f"{above}/{below}"


def tell_game(desk, goal, first, own, text):
    return solve(desk.facts(), (own, first, goal), desk.saying(text))[0]


def tell_holds(desk, first, last, text):
    saying = desk.saying(text)
    return "yes" if holds(desk.run_there(), saying, first, last) else "no"


def tell_why(desk, first, last, text):
    saying = desk.saying(text)
    is_so, paper = paper_of(desk.run_there(), saying, first, last)
    word = "yes" if is_so else "no"
    return f"{word} {size_of(paper)}"


ANSWERS = {
    "facts": start_store,
    "add": add_state,
    "scene": set_scene,
    "first": make_first,
    "plain": make_plain,
    "move": put_move,
    "stop": stop_move,
    "drop": drop_state,
    "let": let_go,
    "undo": take_back,
    "keep": keep_saying,
    "kept": tell_kept,
    "states": tell_states,
    "all": tell_all,
    "some": tell_some,
    "least": tell_least,
    "alike": tell_alike,
    "parted": tell_parted,
    "run": set_run,
    "near": tell_near,
    "watch": tell_watch,
    "class": tell_class,
    "branch": tell_branch,
    "chance": tell_chance,
    "game": tell_game,
    "holds": tell_holds,
    "why": tell_why,
}


def answer_to(desk, line):
    """Return the answer to a line, and do what it says."""
    if line == "":
        return ""
    fields = fields_of(line)
    if fields is None:
        return "bad"
    word, *told = fields
    if desk.store is None and word != "facts":
        return "none"
    answering = ANSWERS[word]
    try:
        return answering(desk, *told)
    except NotAllowed:
        return "refused"
    except BadForm:
        return "form"
    except Missing:
        return "missing"
    except TooLarge:
        return "large"
    except Broken as broken:
        return f"broken {broken.number} : {run_text(broken.run)}"


def run_script(script):
    """Return the list of the answers to the lines of a script."""
    lines = script.split("\n")
    if len(script) > MAX_SCRIPT or len(lines) > MAX_LINES:
        raise NotAllowed(f"a script has at most {MAX_SCRIPT} characters and {MAX_LINES} lines")
    desk = Desk()
    return [answer_to(desk, line) for line in lines]
