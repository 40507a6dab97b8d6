"""Machines of any number of rooms: looking through them, and making them least.

Here rooms and letters are told by their numbers: `moves` has a row for each
room, with a room for each letter, and `lets` has True or False for each room.
"""

from spansay.errors import TooLarge


def rooms_in_order(moves):
    """Return the list of the rooms to which rows lead, in the order of their first rows."""
    order = [0]
    met = {0: True}
    at = 0
    while at < len(order):
        row = moves[order[at]]
        for room in row:
            if room not in met:
                met[room] = True
                order.append(room)
        at += 1
    return order


def refined(moves, kinds, most):
    """Return a dict with a number for each room, the same for those that no row tells apart.

    The dict `kinds` has a number for each room, in the order in which rooms are
    to be numbered; rooms with other numbers are told apart by the empty row.
    """
    order = list(kinds)
    many = len(set(list(kinds.values())))
    while True:
        numbers = {}
        finer = {}
        for room in order:
            sign = (kinds[room],) + tuple([kinds[after] for after in moves[room]])
            finer[room] = numbers.setdefault(sign, len(numbers))
        # Rooms told apart stay apart: so it is too large already when this is seen.
        if len(numbers) > most:
            raise TooLarge(f"there are more than {most} rooms")
        if len(numbers) == many:
            return finer
        kinds = finer
        many = len(numbers)


def first_rooms(order, numbers):
    """Return the list of the rooms that are the first ones, in order, with their numbers."""
    firsts = []
    for room in order:
        # Numbers are given in this order: a greater one than all before is a new one.
        if numbers[room] == len(firsts):
            firsts.append(room)
    return firsts


def merged(letters, moves, lets, most):
    """Return the least machine, and the dict of its room for each room that a row leads to."""
    order = rooms_in_order(moves)
    numbers = refined(moves, {room: 1 if lets[room] else 0 for room in order}, most)
    rows = []
    let_by = []
    for number, room in enumerate(first_rooms(order, numbers)):
        rows.append(tuple([numbers[after] for after in moves[room]]))
        if lets[room]:
            let_by.append(number)
    return (letters, tuple(rows), tuple(let_by)), numbers


def paired_from(start, first, second):
    """Return the list of the pairs of rooms to which rows lead from a pair, and their moves."""
    pairs = [start]
    numbers = {start: 0}
    moves = []
    while len(moves) < len(pairs):
        one, other = pairs[len(moves)]
        row = []
        for pair in zip(first[one], second[other]):
            if pair not in numbers:
                numbers[pair] = len(pairs)
                pairs.append(pair)
            row.append(numbers[pair])
        moves.append(row)
    return pairs, moves


def paired(first, second):
    """Return the list of the pairs of rooms to which rows lead in two moves, and their moves."""
    return paired_from((0, 0), first, second)


def row_back(came, room):
    """Return the row of letters by which a room was come to."""
    row = []
    while came[room] is not None:
        room, letter = came[room]
        row.append(letter)
    row.reverse()
    return row


def first_row_to(moves, lets):
    """Return the list of the letters' numbers of the first row that is let by, or None."""
    order = [0]
    came = {0: None}
    at = 0
    while at < len(order):
        room = order[at]
        if lets[room]:
            return row_back(came, room)
        for letter, after in enumerate(moves[room]):
            if after not in came:
                came[after] = (room, letter)
                order.append(after)
        at += 1
    return None
