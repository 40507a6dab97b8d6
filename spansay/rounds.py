"""Deeds of rows of letters, and the rounds of machines."""

from spansay.errors import BadPaper, NotAllowed, TooLarge

MAX_DEEDS = 2000


class Deeds:
    """Meets the deeds of a machine, in the order of their first rows."""

    def __init__(self, machine):
        self.letters = machine[0]
        self.moves = machine[1]
        same = tuple(range(len(machine[1])))
        self.rows = [((), same)]
        self.met = {same: True}
        self.at = 0

    def more(self):
        """Meet the deeds behind the next one, and return True if there was a next one."""
        if self.at == len(self.rows):
            return False
        row, deed = self.rows[self.at]
        self.at += 1
        for number, letter in enumerate(self.letters):
            after = tuple([self.moves[room][number] for room in deed])
            if after not in self.met:
                self.met[after] = True
                self.rows.append((row + (letter,), after))
        return True

    def pair(self, number):
        """Return the pair of a row and a deed with a number, None if there are not so many."""
        while len(self.rows) <= number:
            if not self.more():
                return None
        return self.rows[number]


def deed_of(machine, row):
    """Return the deed of a row of letters."""
    letters, moves, _ = machine
    deed = tuple(range(len(moves)))
    for letter in row:
        if letter not in letters:
            raise NotAllowed("there is something in the row that is no letter")
        number = letters.index(letter)
        deed = tuple([moves[room][number] for room in deed])
    return deed


def deeds_of(machine):
    """Return the list of the pairs of the first row and the deed, in the order of meeting."""
    deeds = Deeds(machine)
    if deeds.pair(MAX_DEEDS) is not None:
        raise TooLarge(f"there are more than {MAX_DEEDS} deeds")
    return deeds.rows


def times_around(deed, room):
    """Return how many times a deed has to be done to come back to a room, 0 if it never does."""
    at = room
    for times in range(1, len(deed) + 1):
        at = deed[at]
        if at == room:
            return times
    return 0


def round_by(row, deed):
    """Return the round with the least room that a row leads around, None if there is none."""
    for room in range(len(deed)):
        times = times_around(deed, room)
        if times >= 2:
            return (room, row, times)
    return None


def first_round(machine):
    """Return the first round of a machine, None if there is none."""
    deeds = Deeds(machine)
    for number in range(MAX_DEEDS):
        pair = deeds.pair(number)
        if pair is None:
            return None
        found = round_by(pair[0], pair[1])
        if found is not None:
            return found
    if deeds.pair(MAX_DEEDS) is not None:
        raise TooLarge(f"none of the first {MAX_DEEDS} deeds leads around in a round")
    return None


def judge_round(machine, room, row, times):
    """Raise BadPaper if a room, a row and a number of times are not a round of a machine."""
    if not 0 <= room < len(machine[1]):
        raise NotAllowed("this is no room of the machine")
    if not row:
        raise NotAllowed("the row is empty")
    deed = deed_of(machine, row)
    if times < 2 or times_around(deed, room) != times:
        raise BadPaper("this is not a round")
