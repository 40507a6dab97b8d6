"""Machines: which triples they are, the rows that they let by, and least ones."""

from spansay.errors import NotAllowed
from spansay.merging import first_row_to, merged, paired

MAX_ROOMS = 60
MAX_LETTERS = 24
MAX_SETS = 400
MAX_LENGTH = 200


def are_letters(letters):
    """Return True if a tuple of letters may be that of a machine."""
    if not 1 <= len(letters) <= MAX_LETTERS:
        return False
    return all(letters.index(letter) == at for at, letter in enumerate(letters))


def are_moves(letters, moves):
    """Return True if a tuple of tuples of integers may be the moves of a machine."""
    if not 1 <= len(moves) <= MAX_ROOMS:
        return False
    for row in moves:
        if len(row) != len(letters):
            return False
        if min(row) < 0 or max(row) >= len(moves):
            return False
    return True


def are_rooms(rooms, many):
    """Return True if a tuple of integers is ascending, and these are among so many rooms."""
    least = 0
    for room in rooms:
        if not least <= room < many:
            return False
        least = room + 1
    return True


def check_machine(machine):
    """Raise NotAllowed if a triple is not a machine."""
    letters, moves, lets = machine
    if not are_letters(letters):
        raise NotAllowed(f"there are 1 to {MAX_LETTERS} different letters")
    if not are_moves(letters, moves):
        raise NotAllowed(f"there are 1 to {MAX_ROOMS} rows, with a room for each letter")
    if not are_rooms(lets, len(moves)):
        raise NotAllowed("the rooms that let by are rooms, ascending")


def room_behind(machine, row):
    """Return the room to which a row of letters leads."""
    letters, moves, _ = machine
    room = 0
    for letter in row:
        if letter not in letters:
            raise NotAllowed("there is something in the row that is no letter")
        room = moves[room][letters.index(letter)]
    return room


def lets_by(machine, row):
    """Return True if a machine lets a row of letters by."""
    return room_behind(machine, row) in machine[2]


def lets_of(machine):
    """Return the list that has for each room True if it lets by."""
    lets = [False] * len(machine[1])
    for room in machine[2]:
        lets[room] = True
    return lets


def least_machine(machine):
    """Return the least machine that lets the same rows by."""
    letters, moves, _ = machine
    least, _ = merged(letters, moves, lets_of(machine), len(moves))
    return least


def check_alike(first, second):
    """Raise NotAllowed if two machines do not have the same letters in the same order."""
    if first[0] != second[0]:
        raise NotAllowed("the machines do not have the same letters")


def joined(first, second, word):
    """Return the least machine of the rows that both machines, or one of them, let by."""
    check_alike(first, second)
    pairs, moves = paired(first[1], second[1])
    ones = lets_of(first)
    others = lets_of(second)
    if word == "and":
        lets = [ones[one] and others[other] for one, other in pairs]
    else:
        lets = [ones[one] or others[other] for one, other in pairs]
    least, _ = merged(first[0], moves, lets, MAX_ROOMS)
    return least


def told_row(letters, row):
    """Return the tuple of the letters with these numbers, None for None."""
    if row is None:
        return None
    return tuple([letters[at] for at in row])


def first_row(machine):
    """Return the first row that a machine lets by, None if there is none."""
    return told_row(machine[0], first_row_to(machine[1], lets_of(machine)))


def first_apart(first, second):
    """Return the first row that just one of two machines lets by, None if there is none."""
    check_alike(first, second)
    pairs, moves = paired(first[1], second[1])
    ones = lets_of(first)
    others = lets_of(second)
    lets = [ones[one] != others[other] for one, other in pairs]
    return told_row(first[0], first_row_to(moves, lets))


def count_rows(machine, many):
    """Return the number of the rows of so many letters that a machine lets by."""
    if not 0 <= many <= MAX_LENGTH:
        raise NotAllowed(f"rows that are counted have 0 to {MAX_LENGTH} letters")
    _, moves, lets = machine
    counts = [0] * len(moves)
    counts[0] = 1
    for _ in range(many):
        after = [0] * len(moves)
        for room, row in enumerate(moves):
            for target in row:
                after[target] += counts[room]
        counts = after
    return sum([counts[room] for room in lets])
