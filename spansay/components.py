"""The components of machines, and where rows lead within them.

Letters are told by their numbers here, and some rooms together by an integer with their bits.
"""

from spansay.machines import lets_of
from spansay.merging import rooms_in_order
from spansay.rests import rooms_ahead
from spansay.strong import are_on_rounds, marks_together, turned_arrows


def useful_rooms(machine):
    """Return the list that has for each room True if it is useful."""
    ahead = turned_arrows(machine[1])
    lets = lets_of(machine)
    leads_on = list(lets)
    for room in range(len(lets)):
        if lets[room]:
            for other in rooms_ahead(ahead, room):
                leads_on[other] = True
    is_useful = [False] * len(lets)
    for room in rooms_in_order(machine[1]):
        is_useful[room] = leads_on[room]
    return is_useful


def rooms_together(machine):
    """Return the list of the components, each a tuple of rooms."""
    is_useful = useful_rooms(machine)
    after = []
    for room, row in enumerate(machine[1]):
        after.append([other for other in row if is_useful[other]] if is_useful[room] else [])
    marks = marks_together(after)
    found = {}
    for room, is_around in enumerate(are_on_rounds(after)):
        if is_around:
            found.setdefault(marks[room], []).append(room)
    # Rooms ascend here: so components come in the order of their least rooms.
    return [tuple(rooms) for rooms in found.values()]


class Components:
    """The components of a machine."""

    def __init__(self, machine):
        self.letters = machine[0]
        self.moves = machine[1]
        self.rooms = rooms_together(machine)
        self.whole = [sum([1 << room for room in rooms]) for rooms in self.rooms]
        self.later = []
        for rooms in self.rooms:
            ahead = rooms_ahead(machine[1], rooms[0])
            self.later.append([other[0] in ahead for other in self.rooms])
        self.images = {}

    def many(self):
        """Return the number of the components."""
        return len(self.rooms)

    def is_there(self, k):
        """Return True if there is a component with a number."""
        return 0 <= k < len(self.rooms)

    def is_behind(self, k, j):
        """Return True if the component j is another one than k, and behind it."""
        return k != j and self.later[k][j]

    def may_follow(self, k, j):
        """Return True if the component j is k, or behind it."""
        return k == j or self.later[k][j]

    def is_within(self, k, room):
        """Return True if a room is one of a component."""
        return self.whole[k] >> room & 1 == 1

    def step(self, k, bits, letter):
        """Return the rooms of a component to which a letter leads from some of its rooms, as bits."""
        key = (bits, letter)
        if key not in self.images:
            image = 0
            for room in self.rooms[k]:
                if bits >> room & 1:
                    image |= 1 << self.moves[room][letter]
            self.images[key] = image & self.whole[k]
        return self.images[key]

    def takes(self, k, row):
        """Return True if a component takes a row of letters."""
        bits = self.whole[k]
        for letter in row:
            bits = self.step(k, bits, letter)
        return bits != 0

    def way_to(self, start, ends):
        """Return the shortest row of letters that leads from a room of a component to one of some rooms of it."""
        # What leads out of a component never leads back: so the row stays within it.
        waiting = [start]
        rows = {start: ()}
        at = 0
        while waiting[at] not in ends:
            room = waiting[at]
            at += 1
            for letter, after in enumerate(self.moves[room]):
                if after not in rows:
                    rows[after] = rows[room] + (letter,)
                    waiting.append(after)
        return rows[waiting[at]]

    def room_within(self, k, start, row):
        """Return the room to which a row leads from a room through a component, None if it leads out of it."""
        room = start
        for letter in row:
            room = self.moves[room][letter]
            if not self.is_within(k, room):
                return None
        return room
