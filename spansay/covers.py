"""Which components of a machine cover those of another one, and whether distances are bounded."""

from spansay.components import Components
from spansay.errors import BadPaper, Missing, TooLarge
from spansay.machines import are_rooms, lets_of
from spansay.merging import row_back
from spansay.overscenes import check_over_scenes
from spansay.rests import first_rest

MAX_TAKEN = 2000


def components_over(facts, machine):
    """Return the components of a machine over the scenes."""
    check_over_scenes(facts, machine)
    return Components(machine)


def check_there(components, k):
    """Raise Missing if there is no component with a number."""
    if not components.is_there(k):
        raise Missing("there is no such component")


def components_of(facts, machine):
    """Return the list of the components of a machine."""
    return components_over(facts, machine).rooms


def is_behind(facts, machine, k, j):
    """Return True if the component j is behind the component k."""
    components = components_over(facts, machine)
    check_there(components, k)
    check_there(components, j)
    return components.is_behind(k, j)


def numbers_of(components, row):
    """Return the list of the numbers of the scenes of a row, None if there is something else in it."""
    if not all([scene in components.letters for scene in row]):
        return None
    return [components.letters.index(scene) for scene in row]


def are_taken(components, k, row):
    """Return True if a component takes a row of scenes."""
    numbers = numbers_of(components, row)
    return numbers is not None and components.takes(k, numbers)


def takes(facts, machine, k, row):
    """Return True if a component takes a row of scenes."""
    components = components_over(facts, machine)
    check_there(components, k)
    return are_taken(components, k, row)


def untaken_row(ones, k, others, j):
    """Return the letters of the first row that a component takes and another one does not, None if there is none.

    Pairs of a room and of the other component's rooms are gone through in the order of the first
    rows that lead to them; those with the same first row stand together.
    """
    groups = [(ones.rooms[k], others.whole[j])]
    met = {(room, others.whole[j]): True for room in ones.rooms[k]}
    came = {0: None}
    first = None
    at = 0
    while at < len(groups):
        rooms, bits = groups[at]
        if bits == 0 and first is None:
            first = at
        for letter in range(len(ones.letters)):
            after = others.step(j, bits, letter)
            fresh = []
            for room in rooms:
                coming = ones.moves[room][letter]
                if ones.is_within(k, coming) and (coming, after) not in met:
                    met[(coming, after)] = True
                    fresh.append(coming)
            if fresh:
                came[len(groups)] = (at, letter)
                groups.append((fresh, after))
        if len(met) > MAX_TAKEN:
            raise TooLarge(f"there are more than {MAX_TAKEN} pairs of a room and of other rooms")
        at += 1
    return None if first is None else row_back(came, first)


def first_untaken(facts, first, k, second, j):
    """Return the first row that a component of a machine takes, and one of another machine does not, or None."""
    ones = components_over(facts, first)
    others = components_over(facts, second)
    check_there(ones, k)
    check_there(others, j)
    row = untaken_row(ones, k, others, j)
    return None if row is None else tuple([ones.letters[letter] for letter in row])


def check_lets_some(machine):
    """Raise Missing if a machine lets by no run."""
    if first_rest(machine[1], 0, lets_of(machine), False) is None:
        raise Missing("a machine lets by no run")


class Cover:
    """The components of two machines, and which of the second one cover which of the first one."""

    def __init__(self, ones, others):
        self.ones = ones
        self.others = others
        self.untaken = []
        for k in range(ones.many()):
            self.untaken.append([untaken_row(ones, k, others, j) for j in range(others.many())])
        self.covering = [tuple([j for j, row in enumerate(rows) if row is None]) for rows in self.untaken]

    def following(self, numbers, k):
        """Return the tuple of the components that cover a component, and are one of some or behind one."""
        return tuple([
            j for j in self.covering[k]
            if any([self.others.may_follow(number, j) for number in numbers])
        ])

    def telling_row(self, k):
        """Return the letters of a row that a component takes, and no component that does not cover it."""
        row = []
        at = None
        for j, untaken in enumerate(self.untaken[k]):
            if untaken is None or not self.others.takes(j, row):
                continue
            starts = [room for room in self.ones.rooms[k] if self.ones.room_within(k, room, untaken) is not None]
            if at is None:
                at = starts[0]
            coming = list(self.ones.way_to(at, starts)) + untaken
            row.extend(coming)
            at = self.ones.room_within(k, at, coming)
        return row


def check_machines(facts, first, second):
    """Raise NotAllowed or Missing if the distances of two machines cannot be asked for."""
    check_over_scenes(facts, first)
    check_over_scenes(facts, second)
    check_lets_some(first)
    check_lets_some(second)


def cover_of(facts, first, second):
    """Return which components of a machine cover those of another one."""
    check_machines(facts, first, second)
    return Cover(Components(first), Components(second))


class Search:
    """Goes along all chains of a machine, with the components of another one that may cover them.

    Pairs are a component and the tuple of those that may stand for it at the end of a chain.
    """

    def __init__(self, cover):
        self.cover = cover
        self.pairs = []
        self.came = []
        self.sets = [[] for _ in range(cover.ones.many())]

    def put(self, k, numbers, came):
        """Put a pair behind the others, if none with the same component has fewer numbers."""
        for known in self.sets[k]:
            if all([number in numbers for number in known]):
                return
        self.sets[k].append(numbers)
        self.pairs.append((k, numbers))
        self.came.append(came)

    def chain_to(self, at):
        """Return the list of the components of the chain that leads to a pair."""
        chain = []
        while at is not None:
            chain.append(self.pairs[at][0])
            at = self.came[at]
        chain.reverse()
        return chain

    def uncovered(self):
        """Return the first chain that is met and not covered, None if there is none."""
        for k in range(self.cover.ones.many()):
            self.put(k, self.cover.covering[k], None)
        at = 0
        while at < len(self.pairs):
            k, numbers = self.pairs[at]
            if not numbers:
                return self.chain_to(at)
            for j in range(self.cover.ones.many()):
                if self.cover.ones.is_behind(k, j):
                    self.put(j, self.cover.following(numbers, j), at)
            at += 1
        return None


def bounded(facts, first, second):
    """Return ("bounded", paper) or ("not", paper), for the distances of the runs of a machine from another one."""
    cover = cover_of(facts, first, second)
    search = Search(cover)
    chain = search.uncovered()
    if chain is None:
        return ("bounded", tuple(search.pairs))
    letters = cover.ones.letters
    return ("not", tuple([(k, tuple([letters[letter] for letter in cover.telling_row(k)])) for k in chain]))


def judge_bounded(facts, first, second, paper):
    """Raise BadPaper if a paper does not show that distances are bounded."""
    cover = cover_of(facts, first, second)
    sets = [[] for _ in range(cover.ones.many())]
    for k, numbers in paper:
        if not cover.ones.is_there(k) or not numbers or not are_rooms(numbers, cover.others.many()):
            raise BadPaper("there is no such component, or none that stands for it")
        if not all([number in cover.covering[k] for number in numbers]):
            raise BadPaper("a component does not cover the other one")
        sets[k].append(numbers)
    if not all(sets):
        raise BadPaper("a component is not there")
    for k, numbers in paper:
        for j in range(cover.ones.many()):
            if cover.ones.is_behind(k, j) and not is_followed(cover.following(numbers, j), sets[j]):
                raise BadPaper("a component behind another one is not covered behind those that stand for it")


def is_followed(allowed, sets):
    """Return True if all numbers of one of some tuples are allowed."""
    return any([all([number in allowed for number in numbers]) for numbers in sets])


def judge_unbounded(facts, first, second, paper):
    """Raise BadPaper if a paper does not show that distances are not bounded."""
    check_machines(facts, first, second)
    ones = Components(first)
    others = Components(second)
    standing = None
    for at, (k, row) in enumerate(paper):
        if not ones.is_there(k) or at > 0 and not ones.is_behind(paper[at - 1][0], k):
            raise BadPaper("these components are no chain")
        if not are_taken(ones, k, row):
            raise BadPaper("a component does not take its row")
        taking = [j for j in range(others.many()) if are_taken(others, j, row)]
        if at > 0:
            taking = [j for j in taking if any([others.may_follow(number, j) for number in standing])]
        standing = taking
    if standing is None or standing:
        raise BadPaper("components of the second machine take the rows one by one")
