"""Watchers: what can be told of a run while its scenes come, one after another."""

from spansay.errors import Missing, NotAllowed, TooLarge
from spansay.least import machine_of
from spansay.machines import MAX_LENGTH, lets_of, told_row
from spansay.merging import paired_from
from spansay.rests import count_rests_to, first_rest, rooms_ahead
from spansay.scenes import is_scene, scenes_of

MAX_READ = 5000
MAX_WATCHED = 6


class Watched:
    """What is known of a saying that is watched."""

    def __init__(self, machine):
        self.moves = machine[1]
        self.lets = lets_of(machine)
        self.breaks = [not is_let for is_let in self.lets]
        self.settled = [self.settled_from(room) for room in range(len(self.moves))]

    def settled_from(self, room):
        """Return 1 if all further rests from a room keep, -1 if all break, otherwise 0."""
        lets = [self.lets[after] for after in rooms_ahead(self.moves, room)]
        if all(lets):
            return 1
        return 0 if any(lets) else -1


class Watcher:
    """Watches a tuple of sayings."""

    def __init__(self, facts, sayings):
        if not 1 <= len(sayings) <= MAX_WATCHED:
            raise NotAllowed(f"1 to {MAX_WATCHED} sayings are watched")
        self._facts = facts
        self._scenes = scenes_of(facts)
        self._watched = [Watched(machine_of(facts, saying)) for saying in sayings]
        self._read = []
        # The rooms behind the run so far, a list for each number of scenes from 0 on.
        self._rooms = [[0] * len(sayings)]

    def _check(self, k):
        """Raise Missing if there is no saying with an index."""
        if not 0 <= k < len(self._watched):
            raise Missing("there is no saying with this index")

    def _room(self, k):
        """Return the room behind the run so far."""
        return self._rooms[-1][k]

    def _keeps_now(self, k):
        """Return True if the run so far is a run and keeps a saying."""
        return len(self._read) > 0 and self._watched[k].lets[self._room(k)]

    def read(self, scene):
        """Read a scene."""
        if not is_scene(self._facts, scene):
            raise NotAllowed("this is no scene of the facts")
        if len(self._read) >= MAX_READ:
            raise TooLarge(f"{MAX_READ} scenes have been read")
        at = self._scenes.index(scene)
        rooms = [known.moves[room][at] for known, room in zip(self._watched, self._rooms[-1])]
        self._read.append(scene)
        self._rooms.append(rooms)

    def back(self):
        """Take back the last scene."""
        if not self._read:
            raise Missing("no scene has been read")
        self._read.pop()
        self._rooms.pop()

    def run(self):
        """Return the tuple of the scenes so far."""
        return tuple(self._read)

    def many(self):
        """Return the number of the scenes so far."""
        return len(self._read)

    def keeps(self, k):
        """Return True if the run so far keeps a saying."""
        self._check(k)
        if not self._read:
            raise Missing("no scene has been read")
        return self._keeps_now(k)

    def at_one(self):
        """Return True if the run so far keeps all sayings, or none."""
        if not self._read:
            raise Missing("no scene has been read")
        kept = [self._keeps_now(k) for k in range(len(self._watched))]
        return all(kept) or not any(kept)

    def settled(self, k):
        """Return 1 if a saying is settled well, -1 if it is settled badly, and 0 if it is not settled."""
        self._check(k)
        return self._watched[k].settled[self._room(k)]

    def rest_to_keep(self, k):
        """Return the first rest that keeps a saying, None if there is none."""
        self._check(k)
        known = self._watched[k]
        rest = first_rest(known.moves, self._room(k), known.lets, self._keeps_now(k))
        return told_row(self._scenes, rest)

    def rest_to_break(self, k):
        """Return the first rest that breaks a saying, None if there is none."""
        self._check(k)
        known = self._watched[k]
        is_broken = len(self._read) > 0 and not self._keeps_now(k)
        rest = first_rest(known.moves, self._room(k), known.breaks, is_broken)
        return told_row(self._scenes, rest)

    def rest_to_part(self, k, j):
        """Return the first rest behind which the run keeps just one of two sayings, or None."""
        self._check(k)
        self._check(j)
        one, other = self._watched[k], self._watched[j]
        pairs, moves = paired_from((self._room(k), self._room(j)), one.moves, other.moves)
        wanted = [one.lets[room] != other.lets[after] for room, after in pairs]
        rest = first_rest(moves, 0, wanted, self._keeps_now(k) != self._keeps_now(j))
        return told_row(self._scenes, rest)

    def count_rests(self, k, many):
        """Return the number of the rests of so many scenes that keep a saying."""
        self._check(k)
        if not 0 <= many <= MAX_LENGTH:
            raise NotAllowed(f"rests that are counted have 0 to {MAX_LENGTH} scenes")
        if many == 0:
            return 1 if self._keeps_now(k) else 0
        known = self._watched[k]
        return count_rests_to(known.moves, self._room(k), many, known.lets)

    def copy(self):
        """Return a watcher that has read the same."""
        # What is known of the sayings never changes: it need not be worked out again.
        other = Watcher(self._facts, (("point",),))
        other._watched = self._watched
        other._read = list(self._read)
        other._rooms = list(self._rooms)
        return other
