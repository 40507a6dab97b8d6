"""Stores: systems that keep their sayings under all changes."""

from spansay.errors import BadForm, Missing, NotAllowed, TooLarge
from spansay.images import image_of, read_image
from spansay.least import machine_of
from spansay.sayings import check_saying
from spansay.scenes import check_facts, is_scene
from spansay.snapshots import Kept, Snapshot, check_kept, system_without, with_place, with_state
from spansay.systems import MAX_STATES, check_system

MAX_KEPT = 6
MAX_NUMBER = 999999
MAX_IMAGE = 12000


class Store:
    """A system over some facts, with kept sayings."""

    def __init__(self, facts, system):
        check_facts(facts)
        check_system(facts, system)
        self._facts = facts
        self._now = Snapshot(system, (), 1)
        self._before = []

    def _change(self, system, rows, coming):
        """Do a change, if all kept sayings are kept then."""
        after = Snapshot(system, rows, coming)
        check_kept(after)
        self._before.append(self._now)
        self._now = after

    def _change_system(self, scenes, firsts, moves):
        """Do a change of the system."""
        self._change((scenes, firsts, moves), self._now.rows, self._now.coming)

    def _check_state(self, state):
        """Raise Missing if there is no such state."""
        if not 0 <= state < len(self._now.system[0]):
            raise Missing("there is no such state")

    def _check_scene(self, scene):
        """Raise NotAllowed if a tuple of texts is not a scene."""
        if not is_scene(self._facts, scene):
            raise NotAllowed("this is no scene of the facts")

    def facts(self):
        """Return the facts."""
        return self._facts

    def system(self):
        """Return the system."""
        return self._now.system

    def kept(self):
        """Return the list of the pairs of a number and a kept saying, in order."""
        return [(kept.number, kept.saying) for kept in self._now.rows]

    def changes(self):
        """Return the number of the changes in force."""
        return len(self._before)

    def image(self):
        """Return the image."""
        return image_of(self._facts, self._now.system, self.kept(), self._now.coming)

    def keep(self, saying):
        """Keep one more saying, and return its number."""
        check_saying(self._facts, saying)
        number = self._now.coming
        if len(self._now.rows) >= MAX_KEPT:
            raise TooLarge(f"{MAX_KEPT} sayings are kept")
        if number > MAX_NUMBER:
            raise TooLarge(f"there is no number above {MAX_NUMBER}")
        kept = Kept(number, saying, machine_of(self._facts, saying))
        self._change(self._now.system, self._now.rows + (kept,), number + 1)
        return number

    def let(self, number):
        """Keep the saying with a number no longer."""
        rest = tuple([kept for kept in self._now.rows if kept.number != number])
        if len(rest) == len(self._now.rows):
            raise Missing("no saying with this number is kept")
        self._change(self._now.system, rest, self._now.coming)

    def add_state(self, scene):
        """Add a state without moves, and return it."""
        self._check_scene(scene)
        scenes, firsts, moves = self._now.system
        if len(scenes) >= MAX_STATES:
            raise TooLarge(f"there are {MAX_STATES} states")
        self._change_system(scenes + (scene,), firsts, moves + ((),))
        return len(scenes)

    def drop_state(self, state):
        """Take a state away."""
        self._check_state(state)
        if self._now.system[1] == (state,):
            raise NotAllowed("this is the only first state")
        scenes, firsts, moves = system_without(self._now.system, state)
        self._change_system(scenes, firsts, moves)

    def set_scene(self, state, scene):
        """Give a state another scene."""
        self._check_state(state)
        self._check_scene(scene)
        scenes, firsts, moves = self._now.system
        self._change_system(with_place(scenes, state, scene), firsts, moves)

    def set_first(self, state, is_first):
        """Let a state be a first one, or not."""
        self._check_state(state)
        scenes, firsts, moves = self._now.system
        firsts = with_state(firsts, state, is_first)
        if not firsts:
            raise NotAllowed("there would be no first state")
        self._change_system(scenes, firsts, moves)

    def set_move(self, state, after, is_there):
        """Let there be a move from a state to a state, or not."""
        self._check_state(state)
        self._check_state(after)
        scenes, firsts, moves = self._now.system
        row = with_state(moves[state], after, is_there)
        self._change_system(scenes, firsts, with_place(moves, state, row))

    def undo(self):
        """Take back the last change in force."""
        if not self._before:
            raise Missing("no change is in force")
        self._now = self._before.pop()

    def copy(self):
        """Return a store like this one, with the same changes in force."""
        other = Store(self._facts, self._now.system)
        other._now = self._now
        other._before = list(self._before)
        return other

    def _restore(self, kept, coming):
        """Become the store with these kept sayings, without changes."""
        rows = []
        for number, saying in kept:
            rows.append(Kept(number, saying, machine_of(self._facts, saying)))
        now = Snapshot(self._now.system, tuple(rows), coming)
        check_kept(now)
        self._now = now


def load_store(text):
    """Return the store with an image."""
    if len(text) > MAX_IMAGE:
        raise BadForm(0)
    reader = read_image(text, MAX_NUMBER + 1, MAX_KEPT)
    store = Store(reader.facts, reader.system())
    store._restore(reader.kept, reader.coming)
    return store
