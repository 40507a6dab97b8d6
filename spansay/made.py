"""Future chains for machines over the scenes, and how a chain and a machine differ."""

from spansay.cuts import Solver
from spansay.errors import Missing, TooLarge
from spansay.futurelines import FutureLines
from spansay.machines import least_machine, lets_of
from spansay.overscenes import check_over_scenes
from spansay.quotients import Backward
from spansay.rounds import Deeds, first_round

MAX_TABLE = 16
MAX_VIEWS = 3000


class Backrooms:
    """The rooms from which rows lead to those that let by, as states that are read backward."""

    def __init__(self, machine):
        self.moves = machine[1]
        self.states = []
        self.numbers = {}
        self.end = self.number(tuple(lets_of(machine)))
        self.rows = []
        while len(self.rows) < len(self.states):
            lets = self.states[len(self.rows)]
            self.rows.append([self.number(self.ahead(lets, at)) for at in range(len(machine[0]))])

    def number(self, lets):
        """Return the number of a tuple that has for each room whether it is one of them."""
        if lets not in self.numbers:
            self.numbers[lets] = len(self.states)
            self.states.append(lets)
        return self.numbers[lets]

    def ahead(self, lets, at):
        """Return the rooms from which a letter leads to these ones."""
        return tuple([lets[row[at]] for row in self.moves])

    def letters_let(self, state):
        """Return the bits of the letters behind which a row leads on from the room 0."""
        return sum([1 << at for at, after in enumerate(self.rows[state]) if self.states[after][0]])


def chain_by(facts, back, is_wide):
    """Return a future chain that is kept by the runs that lead back to the room 0."""
    many = len(back.states)
    lines = FutureLines(facts)
    letters = []
    for scene in range(len(back.rows[0])):
        letters.append((lines.of_scenes(1 << scene), tuple([row[scene] for row in back.rows])))
    problem = Backward(many, letters, [], back.end)
    told = Solver(lines, is_wide).solved(problem, [back.letters_let(state) for state in range(many)])
    # What is solved is told of the places behind the first one, whose scene comes with it.
    last = lines.any_of([lines.and_of(line, lines.of_scenes(scenes)) for scenes, line in told.items()])
    return lines.chain_to(last)


def made_of(facts, machine):
    """Return a future chain that is kept by exactly the runs that a machine lets by."""
    check_over_scenes(facts, machine)
    least = least_machine(machine)
    if Deeds(least).pair(MAX_TABLE) is not None:
        raise TooLarge(f"the machine has more than {MAX_TABLE} deeds")
    if first_round(least) is not None:
        raise Missing("the machine has a round")
    back = Backrooms(least)
    narrow = chain_by(facts, back, False)
    wide = chain_by(facts, back, True)
    return wide if len(wide) < len(narrow) else narrow


class Sight:
    """What the lines of a future chain are at the first place of a run.

    It hangs on the scene of the place, and on what holds of each `until` there:
    that is told by the number of a text of the signs 0 and 1.
    """

    def __init__(self, chain):
        self.chain = chain
        self.untils = [at for at, line in enumerate(chain) if line[0] == "until"]
        self.facts = tuple(sorted(set([line[1] for line in chain if line[0] == "here"])))
        self.texts = []
        self.numbers = {}
        self.known = {}
        self.nothing = self.number("0" * len(self.untils))

    def number(self, text):
        """Return the number of a text."""
        if text not in self.numbers:
            self.numbers[text] = len(self.texts)
            self.texts.append(text)
        return self.numbers[text]

    def part(self, scene):
        """Return the part of a scene that some line asks for."""
        return tuple([fact for fact in self.facts if fact in scene])

    def told(self, part, number):
        """Return the list of True and False of all lines."""
        told = []
        signs = self.texts[number]
        at = 0
        for line in self.chain:
            word = line[0]
            if word == "and":
                told.append(told[line[1]] and told[line[2]])
            elif word == "or":
                told.append(told[line[1]] or told[line[2]])
            elif word == "not":
                told.append(not told[line[1]])
            elif word == "until":
                told.append(signs[at] == "1")
                at += 1
            else:
                told.append(word == "yes" or line[1] in part)
        return told

    def ahead(self, part, number):
        """Return the number of the text for a place in front, and whether the last line holds."""
        key = (part, number)
        if key not in self.known:
            told = self.told(part, number)
            signs = []
            for at in self.untils:
                _, one, other = self.chain[at]
                signs.append("1" if told[other] or told[one] and told[at] else "0")
            self.known[key] = (self.number("".join(signs)), told[-1])
        return self.known[key]


class View:
    """A view that was met, with its first run."""

    def __init__(self, run, part, number, deed):
        self.run = run
        self.part = part
        self.number = number
        self.deed = deed


class Views:
    """Meets the views of a chain and a machine, in the order of their first runs."""

    def __init__(self, machine, chain):
        self.letters = machine[0]
        self.moves = machine[1]
        self.lets = lets_of(machine)
        self.sight = Sight(chain)
        self.rows = []
        self.met = {}
        # The rests of the coming runs: a run, the number of what is told ahead of it, its deed.
        self.rests = [((), self.sight.nothing, tuple(range(len(machine[1]))))]

    def meet(self, scene, at, rest):
        """Meet the view of a run with a scene in front of a rest, and return it, None if it is no new one."""
        run, number, deed = rest
        part = self.sight.part(scene)
        after = tuple([deed[row[at]] for row in self.moves])
        key = (part, number, after)
        if key in self.met:
            return None
        self.met[key] = True
        view = View((scene,) + run, part, number, after)
        self.rows.append(view)
        return view

    def more(self):
        """Meet the views of the runs of one place more, and return True if there are such."""
        rests = []
        for at, scene in enumerate(self.letters):
            for rest in self.rests:
                view = self.meet(scene, at, rest)
                if view is not None:
                    rests.append((view.run, self.sight.ahead(view.part, view.number)[0], view.deed))
        self.rests = rests
        return len(rests) > 0

    def view(self, number):
        """Return the view with a number, in the order of meeting, None if there are not so many."""
        while len(self.rows) <= number:
            if not self.more():
                return None
        return self.rows[number]

    def is_unlike(self, view):
        """Return True if just one of both is so: the chain is kept, the machine lets by."""
        return self.sight.ahead(view.part, view.number)[1] != self.lets[view.deed[0]]


def first_unlike(facts, machine, chain):
    """Return the first run that a machine lets by and that does not keep a chain, or the other way round."""
    check_over_scenes(facts, machine)
    views = Views(machine, chain)
    for number in range(MAX_VIEWS):
        view = views.view(number)
        if view is None:
            return None
        if views.is_unlike(view):
            return view.run
    if views.view(MAX_VIEWS) is not None:
        raise TooLarge(f"the first {MAX_VIEWS} views show none, and there are more")
    return None


def count_views(facts, machine, chain):
    """Return the number of the views of a chain and a machine."""
    check_over_scenes(facts, machine)
    views = Views(machine, chain)
    if views.view(MAX_VIEWS) is not None:
        raise TooLarge(f"there are more than {MAX_VIEWS} views")
    return len(views.rows)
