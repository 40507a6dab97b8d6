"""Papers that show that machines are takers of sayings."""

from spansay.blocks import marks_of
from spansay.errors import BadPaper
from spansay.sayings import parts_and_places
from spansay.states import MarkStates
from spansay.takers import worked_out


def line_of(worked):
    """Return the line of a part that is worked out."""
    kind = worked.kind
    table = [(kind.told(state), worked.rooms[at]) for at, state in enumerate(worked.states)]
    return (worked.machine, tuple(sorted(table)))


def paper_of(facts, saying):
    """Return the right paper of the takers of all parts, with the states of all rows."""
    return tuple([line_of(worked) for worked in worked_out(facts, saying)])


def understood_table(kind, table, many):
    """Return the dict of the rooms of the states in a table, for a machine of so many rooms."""
    rooms = {}
    for value, room in table:
        state = kind.understood(value)
        if state is None or state in rooms:
            raise BadPaper("a state is none of the part, or is there twice")
        if not 0 <= room < many:
            raise BadPaper("a room is none of the machine")
        rooms[state] = room
    return rooms


def check_table(kind, rooms, machine):
    """Raise BadPaper if the states with their rooms do not go on as the machine does."""
    letters, moves, lets = machine
    if rooms.get(kind.start(), -1) != 0:
        raise BadPaper("the state of the empty row does not have the room 0")
    for state, room in rooms.items():
        if kind.is_good(state) != (room in lets):
            raise BadPaper("a state is good and its room does not let by, or the other way round")
        for at in range(len(letters)):
            after = kind.after(state, at)
            if after not in rooms or rooms[after] != moves[room][at]:
                raise BadPaper("a state behind one letter more does not have its room")


def check_lines(letters, saying, kinds, paper):
    """Raise BadPaper if the lines of a paper are not right, by the kinds of states of the parts."""
    parts = parts_and_places(saying)
    if len(paper) != len(parts):
        raise BadPaper("there is not one line for each part")
    for (part, places), (machine, table) in zip(parts, paper):
        if machine[0] != letters:
            raise BadPaper("a machine does not have the letters that are due")
        machines = [paper[place][0] for place in places]
        kind = kinds.states_of(part, machines)
        check_table(kind, understood_table(kind, table, len(machine[1])), machine)


def judge_paper(facts, saying, paper):
    """Raise BadPaper if a paper is not right."""
    check_lines(marks_of(facts), saying, MarkStates(facts), paper)
