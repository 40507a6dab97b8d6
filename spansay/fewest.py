"""The fewest rooms of a builder's machine that wins, with trees that show that fewer do not."""

from spansay.builders import is_wrong_told, told_wrong
from spansay.errors import BadPaper, Missing, NotAllowed, TooLarge
from spansay.glances import Glances
from spansay.least import machine_of
from spansay.overscenes import check_over_scenes
from spansay.pairplays import CHOICE, MOVE, Chooser, Played, wrong_run
from spansay.sights import check_sight

MAX_FEWEST = 4
MAX_TREE = 3000
WRONG = "wrong"


def check_number(number):
    """Raise NotAllowed if a number of rooms is not one that is looked at."""
    if not 1 <= number <= MAX_FEWEST:
        raise NotAllowed(f"numbers of rooms are from 1 to {MAX_FEWEST}")


class Draft:
    """A builder's machine with a number of rooms, some of whose entries are open, at first all of them."""

    def __init__(self, facts, sight, number):
        self.glances = Glances(facts, sight)
        self.number = number
        self.rows = []
        for _ in range(number):
            self.rows.append(([None] * self.glances.many_choices(), [None] * len(self.glances.glimpses)))
        # The greatest values of moves so far, one for each entry that has a value, and 0 below them.
        self.greatest = [0]

    def is_open(self, word, room, k):
        """Return True if there is such an entry, it may be asked for, and it is open."""
        if word not in (CHOICE, MOVE) or not 0 <= room <= self.greatest[-1]:
            return False
        entries = self.entries(word, room)
        return 0 <= k < len(entries) and entries[k] is None

    def entries(self, word, room):
        """Return the list of the choices, or of the moves, of a room."""
        return self.rows[room][0 if word == CHOICE else 1]

    def values_for(self, word):
        """Return the list of the values that an entry may have: places of choices, or rooms."""
        if word == CHOICE:
            return list(range(len(self.glances.choices)))
        return list(range(min(self.number, self.greatest[-1] + 2)))

    def put(self, word, room, k, value):
        """Give a value to an open entry."""
        entries = self.entries(word, room)
        entries[k] = value
        self.greatest.append(max(self.greatest[-1], value) if word == MOVE else self.greatest[-1])

    def take_away(self, word, room, k):
        """Open the entry again that got a value last."""
        entries = self.entries(word, room)
        entries[k] = None
        self.greatest.pop()

    def chooser(self):
        """Return the chooser of what is there."""
        return Chooser(self.glances, self.rows)

    def builder(self):
        """Return the builder's machine, in which entries that are open have the first values."""
        rows = []
        for choices, moves in self.rows:
            told = [self.glances.choices[choice or 0] for choice in choices]
            rows.append((tuple(told), tuple([room or 0 for room in moves])))
        return tuple(rows)


class Look:
    """Looks through the tree for a number of rooms."""

    def __init__(self, facts, sight, machine, number):
        self.machine = machine
        self.goal = sight[3]
        self.draft = Draft(facts, sight, number)
        self.looked = 0
        self.winner = None
        self.tree = self.tree_here()

    def tree_here(self):
        """Return the tree for what is there, None if a builder's machine that wins is come to."""
        played = Played(self.draft.chooser(), self.machine)
        found = wrong_run(played, self.goal)
        if found is None and played.needed is None:
            self.winner = self.draft.builder()
            return None
        self.looked += 1
        if self.looked > MAX_TREE:
            raise TooLarge(f"more than {MAX_TREE} trees are looked at")
        if found is not None:
            return (WRONG,) + told_wrong(self.draft.glances, found)
        word, room, k = played.needed
        told = self.draft.values_for(word)
        trees = []
        for value in told:
            self.draft.put(word, room, k, value)
            tree = self.tree_here()
            self.draft.take_away(word, room, k)
            if tree is None:
                return None
            trees.append(tree)
        return (word, room, k, tuple(trees))


def fewest(facts, sight, saying, most):
    """Return the least number of rooms of a builder's machine that wins, and such a machine."""
    check_sight(facts, sight)
    check_number(most)
    machine = machine_of(facts, saying)
    for number in range(1, most + 1):
        winner = Look(facts, sight, machine, number).winner
        if winner is not None:
            return (number, winner)
    raise Missing(f"no builder's machine with at most {most} rooms wins")


def too_few(facts, sight, machine, number):
    """Return a tree that shows that no builder's machine with at most so many rooms wins."""
    check_sight(facts, sight)
    check_over_scenes(facts, machine)
    check_number(number)
    tree = Look(facts, sight, machine, number).tree
    if tree is None:
        raise Missing(f"some builder's machine with at most {number} rooms wins")
    return tree


def check_tree(draft, machine, goal, tree):
    """Raise BadPaper if a value is not a tree for what is there."""
    if len(tree) == 3:
        word, stem, cycle = tree
        if word != WRONG or not is_wrong_told(draft.chooser(), machine, goal, stem, cycle):
            raise BadPaper("this is no wrong run of what is there")
        return
    word, room, k, trees = tree
    if not draft.is_open(word, room, k):
        raise BadPaper("this is no open entry that may be asked for")
    told = draft.values_for(word)
    if len(trees) != len(told):
        raise BadPaper("there is not one tree for each value")
    for value, part in zip(told, trees):
        draft.put(word, room, k, value)
        check_tree(draft, machine, goal, part)
        draft.take_away(word, room, k)


def judge_too_few(facts, sight, machine, number, tree):
    """Raise BadPaper if a value is not a tree that shows that no builder's machine with so many rooms wins."""
    check_sight(facts, sight)
    check_over_scenes(facts, machine)
    check_number(number)
    check_tree(Draft(facts, sight, number), machine, sight[3], tree)
