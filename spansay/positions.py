"""What a builder can know: positions of a machine, and what comes behind them.

A position is a pair of integers here, with the bits of its rooms and of those that are owing.
"""

from spansay.errors import TooLarge
from spansay.machines import lets_of

FIRST = (1, 0)
# What comes in the place of a position that is lost, or done.
OVER = (0, 0)


class Positions:
    """Tells what comes behind positions, by the goal."""

    def __init__(self, glances, machine, goal):
        self.moves = machine[1]
        self.goal = goal
        self.breaking = sum([1 << room for room, is_let in enumerate(lets_of(machine)) if not is_let])
        self.scenes = []
        for choice in range(len(glances.choices)):
            self.scenes.append([glances.scenes_with(choice, seen) for seen in range(len(glances.glimpses))])
        self.images = {}

    def behind_rooms(self, rooms, choice, glimpse):
        """Return the bits of the rooms that may come behind some rooms."""
        key = (rooms, choice, glimpse)
        if key not in self.images:
            image = 0
            for room, row in enumerate(self.moves):
                if rooms >> room & 1:
                    for scene in self.scenes[choice][glimpse]:
                        image |= 1 << row[scene]
            self.images[key] = image
        return self.images[key]

    def behind(self, position, choice, glimpse):
        """Return the position behind a choice and a glimpse, or OVER."""
        rooms, owing = position
        coming = self.behind_rooms(rooms, choice, glimpse)
        if self.goal == "always":
            return OVER if coming & self.breaking else (coming, 0)
        if self.goal == "once":
            return (coming & self.breaking, 0)
        owed = self.behind_rooms(owing, choice, glimpse) if owing else coming
        return (coming, owed & self.breaking)


def rooms_in(bits):
    """Return the ascending tuple of the rooms of some bits."""
    return tuple([room for room in range(bits.bit_length()) if bits >> room & 1])


def told_position(position):
    """Return the position as papers have it."""
    return (rooms_in(position[0]), rooms_in(position[1]))


class Known:
    """All positions that can come up, in the order in which they are met, and OVER behind them.

    `tables` has for each of them a row for each choice, with the number of what comes behind each glimpse.
    """

    def __init__(self, glances, positions, most):
        self.glances = glances
        self.met = [FIRST]
        self.numbers = {FIRST: 0}
        rows = []
        while len(rows) < len(self.met):
            position = self.met[len(rows)]
            rows.append([self.row_behind(positions, position, choice) for choice in range(len(glances.choices))])
            if len(self.met) > most:
                raise TooLarge(f"more than {most} positions can come up")
        self.over = len(self.met)
        # Behind OVER there is nothing else.
        rows.append([[OVER] * len(glances.glimpses)] * len(glances.choices))
        self.numbers[OVER] = self.over
        self.tables = [[[self.numbers[after] for after in row] for row in table] for table in rows]

    def row_behind(self, positions, position, choice):
        """Return the list of the positions behind a choice and each glimpse."""
        row = [positions.behind(position, choice, glimpse) for glimpse in range(len(self.glances.glimpses))]
        for after in row:
            if after != OVER and after not in self.numbers:
                self.numbers[after] = len(self.met)
                self.met.append(after)
        return row

    def tables_first(self):
        """Return the tables with a row for each choice or glimpse of the player who is first."""
        if self.glances.is_first:
            return self.tables
        return [[list(row) for row in zip(*table)] for table in self.tables]
