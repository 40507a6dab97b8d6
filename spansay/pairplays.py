"""Plays in which a builder's machine chooses, and wrong runs among them.

The breaker's choices are told by their places among all of them here.
"""

from spansay.machines import lets_of
from spansay.strong import are_on_rounds

CHOICE = "choice"
MOVE = "move"


class Chooser:
    """Chooses as the rows of a builder's machine tell.

    Rows have the places of choices among the builder's choices, and None for entries that are open.
    """

    def __init__(self, glances, rows):
        self.glances = glances
        self.rows = rows

    def open_entry(self, room, other):
        """Return the open entry that a choice of the breaker needs first in a room, None if there is none."""
        choices, moves = self.rows[room]
        glimpse = self.glances.seen[other]
        place = self.glances.place_of_choice(glimpse)
        if choices[place] is None:
            return (CHOICE, room, place)
        if moves[glimpse] is None:
            return (MOVE, room, glimpse)
        return None

    def scene(self, room, other):
        """Return the number of the scene that comes of a choice of the breaker in a room."""
        place = self.glances.place_of_choice(self.glances.seen[other])
        return self.glances.bits[self.rows[room][0][place]] + self.glances.other_bits[other]

    def room_behind(self, room, other):
        """Return the room behind a choice of the breaker in a room."""
        return self.rows[room][1][self.glances.seen[other]]


def chooser_of(glances, builder):
    """Return the chooser of a builder's machine."""
    places = {choice: place for place, choice in enumerate(glances.choices)}
    return Chooser(glances, [([places[choice] for choice in choices], moves) for choices, moves in builder])


class Played:
    """All pairs to which plays come, told by numbers in the order in which they are met.

    `after` has for each pair a list of pairs of a choice and the number of what comes behind it, and
    `needed` is the first open entry that is needed, None if there is none.
    """

    def __init__(self, chooser, machine):
        self.chooser = chooser
        self.moves = machine[1]
        self.pairs = [(0, 0)]
        self.numbers = {(0, 0): 0}
        self.after = []
        self.needed = None
        while len(self.after) < len(self.pairs):
            self.after.append(self.steps_behind(self.pairs[len(self.after)]))
        lets = lets_of(machine)
        self.kept = [lets[room] for _, room in self.pairs]

    def pair_behind(self, pair, other):
        """Return the pair behind a choice of the breaker, which needs no open entry."""
        room, at = pair
        return (self.chooser.room_behind(room, other), self.moves[at][self.chooser.scene(room, other)])

    def steps_behind(self, pair):
        """Return the list of the choices of the breaker at a pair, with the numbers of what comes behind."""
        row = []
        for other in range(len(self.chooser.glances.others)):
            entry = self.chooser.open_entry(pair[0], other)
            if entry is not None:
                self.needed = entry if self.needed is None else self.needed
                continue
            coming = self.pair_behind(pair, other)
            if coming not in self.numbers:
                self.numbers[coming] = len(self.pairs)
                self.pairs.append(coming)
            row.append((other, self.numbers[coming]))
        return row


def came_from(after, start):
    """Return the dict of what is come to from a start by one choice or more, in order.

    It has for each number the one ahead of it and the choice between both.
    """
    came = {}
    waiting = [start]
    at = 0
    while at < len(waiting):
        number = waiting[at]
        at += 1
        for other, coming in after[number]:
            if coming not in came:
                came[coming] = (number, other)
                waiting.append(coming)
    return came


def choices_to(came, start, number):
    """Return the list of one choice or more that lead from the start to a number."""
    number, other = came[number]
    row = [other]
    while number != start:
        number, other = came[number]
        row.append(other)
    row.reverse()
    return row


def first_breaking(played):
    """Return a wrong run for the goal `always`, None if there is none."""
    came = came_from(played.after, 0)
    for number in came:
        if not played.kept[number]:
            return (choices_to(came, 0, number), [])
    return None


def wrong_run(played, goal):
    """Return a wrong run, the lists of the choices of its stem and its cycle, None if there is none."""
    if goal == "always":
        return first_breaking(played)
    inner = played.after
    if goal != "lastly":
        # The run is kept behind no place of the cycle: so it goes through such pairs alone.
        inner = [[step for step in row if not played.kept[step[1]]] for row in played.after]
    around = are_on_rounds([[coming for _, coming in row] for row in inner])
    came = came_from(inner if goal == "once" else played.after, 0)
    for number in [0] + list(came):
        if around[number] and not played.kept[number]:
            stem = choices_to(came, 0, number) if number > 0 else []
            return (stem, choices_to(came_from(inner, number), number, number))
    return None


def pairs_along(chooser, moves, row):
    """Return the list of the pairs behind the choices of a row, None if it needs an open entry."""
    pairs = []
    room, at = 0, 0
    for other in row:
        if chooser.open_entry(room, other) is not None:
            return None
        at = moves[at][chooser.scene(room, other)]
        room = chooser.room_behind(room, other)
        pairs.append((room, at))
    return pairs


def is_wrong(chooser, machine, goal, stem, cycle):
    """Return True if two lists of choices of the breaker are a wrong run."""
    pairs = pairs_along(chooser, machine[1], stem + cycle)
    if pairs is None:
        return False
    lets = lets_of(machine)
    kept = [lets[room] for _, room in pairs]
    if goal == "always":
        return not cycle and len(stem) > 0 and not kept[-1]
    ahead = pairs[len(stem) - 1] if stem else (0, 0)
    if not cycle or pairs[-1] != ahead:
        return False
    if goal == "once":
        return not any(kept)
    around = kept[len(stem):]
    return not any(around) if goal == "often" else not all(around)
