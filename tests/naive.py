"""What DOC.md says, worked out word by word and slowly, to compare the program with."""

import itertools

WAYS = (
    "begins", "begun", "ends", "ended", "during", "around",
    "meets", "met", "later", "earlier", "overlaps", "overlapped",
)

# The rows of the table of [2.3], as the document has them.
BLOCK_ROWS = {
    "begins": "00 any, 11 more, 12 more, 22 any",
    "begun": "00 any, 11 more, 21 more, 22 any",
    "ends": "00 any, 10 more, 11 more, 22 any",
    "ended": "00 any, 01 more, 11 more, 22 any",
    "during": "00 any, 10 more, 11 more, 12 more, 22 any",
    "around": "00 any, 01 more, 11 more, 21 more, 22 any",
    "meets": "00 any, 10 any, 11 one, 21 any, 22 any",
    "met": "00 any, 01 any, 11 one, 12 any, 22 any",
    "later": "00 any, 10 more, 20 any, 21 more, 22 any",
    "earlier": "00 any, 01 more, 02 any, 12 more, 22 any",
    "overlaps": "00 any, 10 more, 11 more, 21 more, 22 any",
    "overlapped": "00 any, 01 more, 11 more, 12 more, 22 any",
}


def leads(way, i, j, i2, j2):
    """The table of [1.3]."""
    return {
        "begins": i2 == i and j2 < j,
        "begun": i2 == i and j2 > j,
        "ends": i2 > i and j2 == j,
        "ended": i2 < i and j2 == j,
        "during": i < i2 and j2 < j,
        "around": i2 < i and j < j2,
        "meets": i2 == j,
        "met": j2 == i,
        "later": i2 > j,
        "earlier": j2 < i,
        "overlaps": i < i2 <= j < j2,
        "overlapped": i2 < i <= j2 < j,
    }[way]


def stretches(many):
    return [(i, j) for i in range(many) for j in range(i, many)]


def reached(many, way, i, j):
    return [s for s in stretches(many) if leads(way, i, j, *s)]


def told(run, saying, i, j):
    """The table of [1.4]."""
    word = saying[0]
    if word == "fact":
        return all(saying[1] in run[k] for k in range(i, j + 1))
    if word == "point":
        return i == j
    if word == "not":
        return not told(run, saying[1], i, j)
    if word == "and":
        return told(run, saying[1], i, j) and told(run, saying[2], i, j)
    if word == "or":
        return told(run, saying[1], i, j) or told(run, saying[2], i, j)
    some = [told(run, saying[2], *s) for s in reached(len(run), saying[1], i, j)]
    return any(some) if word == "some" else all(some)


def kept(run, saying):
    return told(run, saying, 0, len(run) - 1)


def scenes(facts):
    found = []
    for number in range(2 ** len(facts)):
        found.append(tuple(fact for k, fact in enumerate(facts) if number >> k & 1))
    return found


def runs(facts, many):
    return itertools.product(scenes(facts), repeat=many)


def marks(facts):
    return tuple((scene, zone) for scene in scenes(facts) for zone in (0, 1, 2))


def marked(run, i, j):
    return tuple((scene, 0 if k < i else 2 if k > j else 1) for k, scene in enumerate(run))


def told_by_marks(row, saying):
    """Whether a row of marks is a marked run of whose run and stretch a saying holds."""
    zones = [zone for _, zone in row]
    if 1 not in zones or zones != sorted(zones):
        return False
    i = zones.index(1)
    return told([scene for scene, _ in row], saying, i, i + zones.count(1) - 1)


def blocks(way):
    rows = [row.split() for row in BLOCK_ROWS[way].split(", ")]
    return [(int(pair[0]), int(pair[1]), word) for pair, word in rows]


def may_follow(way, h, k):
    """Whether a place may stand in the block k behind one in the block h, or first (-1)."""
    table = blocks(way)
    if k == h:
        return table[h][2] != "one"
    return k > h and all(word == "any" for _, _, word in table[h + 1:k])


def may_end(way, h):
    return all(word == "any" for _, _, word in blocks(way)[h + 1:])


def parts(saying):
    """The parts of a saying, in order, each with the indexes of those directly within it."""
    found = []

    def walk(part):
        inner = [p for p in part[1:] if isinstance(p, tuple)]
        places = [walk(p) for p in inner]
        found.append((part, places))
        return len(found) - 1

    walk(saying)
    return found


FORMS = {(0, 0): 0, (0, 1): 1, (0, 2): 3, (1, 0): 3, (1, 1): 1, (1, 2): 2,
         (2, 0): 3, (2, 1): 3, (2, 2): 2, (3, 0): 3, (3, 1): 3, (3, 2): 3}


def set_after(way, machine, pairs, mark):
    letters, moves, _ = machine
    scene, zone = mark
    found = set()
    for room, h in pairs:
        for k, (one, other, _) in enumerate(blocks(way)):
            if one == zone and may_follow(way, h, k):
                found.add((moves[room][letters.index((scene, other))], k))
    return tuple(sorted(found))


def state_of_row(part, machines, row):
    """The table of [2.4] for one row of marks, each state from what the row is."""
    word = part[0]
    zones = [zone for _, zone in row]
    form = 3
    if zones == sorted(zones):
        form = 2 if 2 in zones else 1
        if 1 not in zones:
            form = 0 if 2 not in zones else 3
    if word == "point":
        return 3 if zones.count(1) >= 2 else form
    if word == "fact":
        return 3 if any(z == 1 and part[1] not in s for s, z in row) else form
    if word == "not":
        return (room(machines[0], row), form)
    if word in ("and", "or"):
        return (room(machines[0], row), room(machines[1], row))
    pairs = set_of_row(part[1], machines[0], row)
    return pairs if word == "some" else (pairs, form)


def set_of_row(way, machine, row):
    """The set of a row, over all choices of zones and blocks."""
    if not row:
        return ((0, -1),)
    found = set()
    table = blocks(way)
    choices = [[k for k, b in enumerate(table) if b[0] == zone] for _, zone in row]
    for chosen in itertools.product(*choices):
        if not may_follow(way, -1, chosen[0]):
            continue
        if not all(may_follow(way, h, k) for h, k in zip(chosen, chosen[1:])):
            continue
        other = [(scene, table[k][1]) for (scene, _), k in zip(row, chosen)]
        found.add((room(machine, other), chosen[-1]))
    return tuple(sorted(found))


def room(machine, row):
    at = 0
    for letter in row:
        at = machine[1][at][machine[0].index(letter)]
    return at


def state_after(part, machines, state, mark):
    word = part[0]
    scene, zone = mark
    if word == "point":
        return 3 if state == 1 and zone == 1 else FORMS[state, zone]
    if word == "fact":
        return 3 if zone == 1 and part[1] not in scene else FORMS[state, zone]
    if word == "not":
        at = machines[0][0].index(mark)
        return (machines[0][1][state[0]][at], FORMS[state[1], zone])
    if word in ("and", "or"):
        at = machines[0][0].index(mark)
        return (machines[0][1][state[0]][at], machines[1][1][state[1]][at])
    if word == "some":
        return set_after(part[1], machines[0], state, mark)
    return (set_after(part[1], machines[0], state[0], mark), FORMS[state[1], zone])


def is_good(part, machines, state):
    word = part[0]
    if word in ("point", "fact"):
        return state in (1, 2)
    if word == "not":
        return state[0] not in machines[0][2] and state[1] in (1, 2)
    if word == "and":
        return state[0] in machines[0][2] and state[1] in machines[1][2]
    if word == "or":
        return state[0] in machines[0][2] or state[1] in machines[1][2]
    pairs = state if word == "some" else state[0]
    ends = [r in machines[0][2] for r, h in pairs if h >= 0 and may_end(part[1], h)]
    if word == "some":
        return any(ends)
    return state[1] in (1, 2) and all(ends)


class Large(Exception):
    """The taker is too large, as [2.5] says."""


def paper(facts, saying, most_sets=400):
    """The paper of [2.6] with takers, least machines made by telling states apart."""
    letters = marks(facts)
    lines = []
    for part, places in parts(saying):
        machines = [lines[k][0] for k in places]
        start = {"point": 0, "fact": 0, "some": ((0, -1),), "all": (((0, -1),), 0)}
        states = [start.get(part[0], (0, 0))]
        numbers = {states[0]: 0}
        moves = []
        sets = set()
        for state in states:
            if part[0] in ("some", "all"):
                sets.add(state if part[0] == "some" else state[0])
                if len(sets) > most_sets:
                    raise Large()
            row = []
            for mark in letters:
                after = state_after(part, machines, state, mark)
                if after not in numbers:
                    numbers[after] = len(states)
                    states.append(after)
                row.append(numbers[after])
            moves.append(row)
        goods = [is_good(part, machines, state) for state in states]
        machine, room_of = least(letters, moves, goods)
        if len(machine[1]) > 60:
            raise Large()
        lines.append((machine, tuple(sorted((s, room_of[numbers[s]]) for s in states))))
    return tuple(lines)


def least(letters, moves, goods):
    """The least machine, by splitting blocks of rooms with one letter at a time."""
    order = [0]
    for at in order:
        for after in moves[at]:
            if after not in order:
                order.append(after)
    block = {at: goods[at] for at in order}
    changed = True
    while changed:
        changed = False
        for k in range(len(letters)):
            finer = {at: (block[at], block[moves[at][k]]) for at in order}
            if len(set(finer.values())) > len(set(block.values())):
                changed = True
                names = {}
                for at in order:
                    names.setdefault(finer[at], len(names))
                block = {at: names[finer[at]] for at in order}
    names = {}
    for at in order:
        names.setdefault(block[at], len(names))
    room_of = {at: names[block[at]] for at in order}
    rows = [None] * len(names)
    for at in order:
        rows[room_of[at]] = tuple(room_of[after] for after in moves[at])
    lets = tuple(sorted({room_of[at] for at in order if goods[at]}))
    return (letters, tuple(rows), lets), room_of


def why(run, saying, i, j):
    """Whether a saying holds of a stretch, and the paper of [3.2], of any size."""
    yes = told(run, saying, i, j)
    return yes, why_paper(run, saying, i, j, yes)


def why_paper(run, saying, i, j, yes):
    word = saying[0]
    if word == "not":
        return why_paper(run, saying[1], i, j, not yes)
    if word in ("fact", "point"):
        return ()
    if word in ("and", "or"):
        if (word == "and") == yes:
            return ("both",) + tuple(why_paper(run, s, i, j, yes) for s in saying[1:])
        k = [told(run, s, i, j) for s in saying[1:]].index(yes)
        return ("one", k, why_paper(run, saying[k + 1], i, j, yes))
    to = reached(len(run), saying[1], i, j)
    if (word == "all") == yes:
        return ("each",) + tuple(why_paper(run, saying[2], *s, yes) for s in to)
    taken = [s for s in to if told(run, saying[2], *s) == yes][0]
    return ("take", taken, why_paper(run, saying[2], *taken, yes))


def size(value):
    """The number of papers in a paper."""
    if value and value[0] == "take":
        return 1 + size(value[2])
    if value and value[0] == "one":
        return 1 + size(value[2])
    return 1 + sum(size(v) for v in value[1:])


def same_type(one, other, ways, depth, known=None):
    """The definition of [4.2]; each is a pair of a run and a stretch."""
    known = {} if known is None else known
    key = (one, other, depth)
    if key not in known:
        known[key] = same_type_now(one, other, ways, depth, known)
    return known[key]


def same_type_now(one, other, ways, depth, known):
    if zero(*one) != zero(*other):
        return False
    if depth == 0:
        return True
    for way in ways:
        ones = [(one[0], s) for s in reached(len(one[0]), way, *one[1])]
        others = [(other[0], s) for s in reached(len(other[0]), way, *other[1])]
        for a in ones:
            if not any(same_type(a, b, ways, depth - 1, known) for b in others):
                return False
        for b in others:
            if not any(same_type(a, b, ways, depth - 1, known) for a in ones):
                return False
    return True


def zero(run, stretch):
    i, j = stretch
    held = set(run[i])
    for k in range(i, j + 1):
        held &= set(run[k])
    return held, i == j


def random_saying(random, facts, nodes, ways=WAYS):
    """A random saying with just so many nodes."""
    if nodes == 1:
        return random.choice([("point",)] + [("fact", fact) for fact in facts] * 2)
    word = random.choice(["not", "some", "all", "some", "all"] + ["and", "or"] * 2 * (nodes > 2))
    if word == "not":
        return ("not", random_saying(random, facts, nodes - 1, ways))
    if word in ("some", "all"):
        return (word, random.choice(ways), random_saying(random, facts, nodes - 1, ways))
    first = random.randint(1, nodes - 2)
    return (word, random_saying(random, facts, first, ways),
            random_saying(random, facts, nodes - 1 - first, ways))


def chain_told(run, chain, at, i, j):
    """The table of [1.4] for a line of a stretch chain, with earlier lines in the place of sayings."""
    line = chain[at]
    word = line[0]
    if word == "fact":
        return all(line[1] in run[k] for k in range(i, j + 1))
    if word == "point":
        return i == j
    if word == "not":
        return not chain_told(run, chain, line[1], i, j)
    if word == "and":
        return chain_told(run, chain, line[1], i, j) and chain_told(run, chain, line[2], i, j)
    if word == "or":
        return chain_told(run, chain, line[1], i, j) or chain_told(run, chain, line[2], i, j)
    some = [chain_told(run, chain, line[2], *s) for s in reached(len(run), line[1], i, j)]
    return any(some) if word == "some" else all(some)


def future_table(run, chain):
    """The table of [5.4]: for each line whether it holds at each place."""
    places = range(len(run))
    told = []
    for line in chain:
        word = line[0]
        if word == "yes":
            row = [True for _ in places]
        elif word == "here":
            row = [line[1] in run[k] for k in places]
        elif word == "not":
            row = [not told[line[1]][k] for k in places]
        elif word == "and":
            row = [told[line[1]][k] and told[line[2]][k] for k in places]
        elif word == "or":
            row = [told[line[1]][k] or told[line[2]][k] for k in places]
        else:
            one, other = told[line[1]], told[line[2]]
            row = [any(other[m] and all(one[k + 1:m]) for m in places if m > k) for k in places]
        told.append(row)
    return told


def random_future(random, facts, many):
    """A random future chain with just so many lines."""
    chain = []
    for k in range(many):
        word = random.choice(["yes", "here", "not", "and", "or", "until", "until", "until"])
        if k == 0 or word in ("yes", "here"):
            chain.append(random.choice([("yes",), ("here", random.choice(facts))]))
        elif word == "not":
            chain.append((word, random.randrange(k)))
        else:
            chain.append((word, random.randrange(k), random.randrange(k)))
    return tuple(chain)


def kinds_of(runs, ways, depth):
    """The numbers of [4.3]: a dict from (which run, stretch) to the number of the type."""
    samples = []
    known = {}
    kinds = {}
    for which, run in enumerate(runs):
        for s in stretches(len(run)):
            for number, other in enumerate(samples):
                if same_type((run, s), other, ways, depth, known):
                    kinds[which, s] = number
                    break
            else:
                kinds[which, s] = len(samples)
                samples.append((run, s))
    return kinds


def parting(runs, ways, which, a, b, depths):
    """The parting saying of [4.6] of a stretch `a` of one run and `b` of the other one."""
    ours, theirs = (which, a), (1 - which, b)
    d = [kinds[ours] == kinds[theirs] for kinds in depths].index(False)
    if d == 0:
        ones, others = sorted(zero(runs[which], a)[0]), sorted(zero(runs[1 - which], b)[0])
        for p in ones:
            if p not in others:
                return ("fact", p)
        for p in others:
            if p not in ones:
                return ("not", ("fact", p))
        return ("point",) if a[0] == a[1] else ("not", ("point",))
    kinds = depths[d - 1]
    for way in ways:
        ones = {kinds[which, c]: c for c in reached(len(runs[which]), way, *a)}
        others = {kinds[1 - which, e]: e for e in reached(len(runs[1 - which]), way, *b)}
        if set(ones) == set(others):
            continue
        if not set(ones) <= set(others):
            c = ones[min(set(ones) - set(others))]
            if not others:
                return ("some", way, ("or", ("point",), ("not", ("point",))))
            told = [parting(runs, ways, which, c, others[k], depths) for k in sorted(others)]
            saying = told[0]
            for part in told[1:]:
                saying = ("and", saying, part)
            return ("some", way, saying)
        return ("not", parting(runs, ways, 1 - which, b, a, depths))


def parting_saying(first, second, ways):
    """The parting saying of two runs, None if their types are the same up to a great depth."""
    whole = [(0, len(first) - 1), (0, len(second) - 1)]
    depths = []
    for d in range(12):
        depths.append(kinds_of((first, second), ways, d))
        if depths[-1][0, whole[0]] != depths[-1][1, whole[1]]:
            return parting((first, second), ways, 0, whole[0], whole[1], depths)
    return None


def chain_lines(saying):
    """The stretch chain of a saying: parts in front, a line that is there already not made again."""
    lines = []

    def put(part):
        inner = tuple(put(p) for p in part[1:] if isinstance(p, tuple))
        line = tuple(p for p in part if not isinstance(p, tuple)) + inner
        if line not in lines:
            lines.append(line)
        return lines.index(line)

    put(saying)
    return tuple(lines)


def deed(machine, row):
    """The tuple of the rooms to which a row leads from each room."""
    rooms = []
    for start in range(len(machine[1])):
        at = start
        for letter in row:
            at = machine[1][at][machine[0].index(letter)]
        rooms.append(at)
    return tuple(rooms)


def lets(machine, row):
    return room(machine, row) in machine[2]


def paths(system, many):
    """All paths of so many states, in order."""
    found = [(state,) for state in range(len(system[0]))]
    for _ in range(many - 1):
        found = [path + (after,) for path in found for after in system[2][path[-1]]]
    return found


def tracks(system, many):
    """All tracks of so many states, in the order of [6.2]."""
    return [path for path in paths(system, many) if path[0] in system[1]]


def tracks_up_to(system, many):
    return [track for length in range(1, many + 1) for track in tracks(system, length)]


def run_of(system, path):
    return tuple(system[0][state] for state in path)


def random_system(random, facts, many, moves=0.35):
    """A random system with so many states."""
    states = range(many)
    firsts = [s for s in states if random.random() < 0.4] or [random.choice(states)]
    rows = [tuple(t for t in states if random.random() < moves) for _ in states]
    return (tuple(random.choice(scenes(facts)) for _ in states), tuple(firsts), tuple(rows))


def later_states(system, state):
    """The states to which one or more moves lead."""
    found = set(system[2][state])
    while True:
        wider = found | {t for s in found for t in system[2][s]}
        if wider == found:
            return found
        found = wider


def path_leads(system, way, t, u):
    """The table of [7.1]."""
    if way == "begins":
        return any(t == u + y for y in [t[k:] for k in range(1, len(t))])
    if way == "begun":
        return any(u == t + y for y in [u[k:] for k in range(1, len(u))])
    if way == "ends":
        return any(t == x + u for x in [t[:k] for k in range(1, len(t))])
    if way == "ended":
        return any(u == x + t for x in [u[:k] for k in range(1, len(u))])
    if way == "during":
        return any(t == t[:i] + u + t[j:] for i in range(1, len(t)) for j in range(i, len(t)))
    if way == "around":
        return any(u == u[:i] + t + u[j:] for i in range(1, len(u)) for j in range(i, len(u)))
    if way == "meets":
        return u[0] == t[-1]
    if way == "met":
        return u[-1] == t[0]
    if way == "later":
        return u[0] in later_states(system, t[-1])
    if way == "earlier":
        return t[0] in later_states(system, u[-1])
    if way == "overlaps":
        return any(t == t[:i] + u[:k] and k < len(u) for i in range(1, len(t)) for k in range(1, len(u)))
    return any(t == u[i:] + t[k:] for i in range(1, len(u)) for k in range(1, len(t)))


def path_told(system, saying, path, pool):
    """[7.1] for one path, where ways lead to the paths of a pool alone."""
    word = saying[0]
    if word == "fact":
        return all(saying[1] in system[0][state] for state in path)
    if word == "point":
        return len(path) == 1
    if word == "not":
        return not path_told(system, saying[1], path, pool)
    if word == "and":
        return all(path_told(system, part, path, pool) for part in saying[1:])
    if word == "or":
        return any(path_told(system, part, path, pool) for part in saying[1:])
    to = [u for u in pool if path_leads(system, saying[1], path, u)]
    some = [path_told(system, saying[2], u, pool) for u in to]
    return any(some) if word == "some" else all(some)


class Rooms:
    """The pairs of a state and a room to which paths lead in a machine over the states."""

    def __init__(self, system, machine):
        self.system = system
        self.machine = machine

    def room(self, row):
        return room(self.machine, row)

    def step(self, pair, state):
        return (state, self.machine[1][pair[1]][state])

    def on(self, pairs):
        """All pairs behind these pairs, by no move or more."""
        found = set(pairs)
        while True:
            wider = found | {self.step(p, t) for p in found for t in self.system[2][p[0]]}
            if wider == found:
                return found
            found = wider

    def moved(self, pairs):
        return {self.step(p, t) for p in pairs for t in self.system[2][p[0]]}

    def alone(self, state):
        return (state, self.machine[1][0][state])

    def every(self):
        """The pairs of all paths."""
        return self.on({self.alone(state) for state in range(len(self.system[0]))})

    def with_ahead(self, row):
        """The pairs of all paths x row, x not empty."""
        pairs = {p for p in self.every() if row[0] in self.system[2][p[0]]}
        for state in row:
            pairs = {self.step(p, state) for p in pairs}
        return pairs

    def pair(self, row):
        return (row[-1], self.room(row))

    def reached(self, way, t):
        """The rooms of all paths to which a way leads from the path t, however long they are."""
        inner = [t[i:j] for i in range(len(t)) for j in range(i + 1, len(t) + 1)]
        if way in ("begins", "ends", "during"):
            return {self.room(u) for u in inner if path_leads(self.system, way, t, u)}
        if way == "begun":
            pairs = self.on(self.moved({self.pair(t)}))
        elif way == "ended":
            pairs = self.with_ahead(t)
        elif way == "around":
            pairs = self.on(self.moved(self.with_ahead(t)))
        elif way == "meets":
            pairs = self.on({self.alone(t[-1])})
        elif way == "met":
            pairs = {p for p in self.every() if p[0] == t[0]}
        elif way == "later":
            pairs = self.on({self.alone(s) for s in later_states(self.system, t[-1])})
        elif way == "earlier":
            pairs = {p for p in self.every() if t[0] in later_states(self.system, p[0])}
        elif way == "overlaps":
            pairs = self.on(self.moved({self.pair(t[i:]) for i in range(1, len(t))}))
        else:
            pairs = {p for j in range(1, len(t)) for p in self.with_ahead(t[:j])}
        return {p[1] for p in pairs}


def path_holds(system, saying, path, reader_of):
    """[7.1] for one path, where readers of the parts tell of the paths to which ways lead."""
    word = saying[0]
    if word not in ("some", "all"):
        if word == "fact":
            return all(saying[1] in system[0][state] for state in path)
        if word == "point":
            return len(path) == 1
        told = [path_holds(system, part, path, reader_of) for part in saying[1:]]
        return {"not": not told[0], "and": all(told), "or": any(told)}[word]
    machine = reader_of(system, saying[2])
    rooms = Rooms(system, machine).reached(saying[1], path)
    lets_them = [at in machine[2] for at in rooms]
    return any(lets_them) if word == "some" else all(lets_them)


def row_end(system, row):
    """The end of [7.3]."""
    if not row:
        return -1
    return row[-1] if all(t in system[2][s] for s, t in zip(row, row[1:])) else -2


def path_set(system, way, machine, r):
    """The set of [7.3], for a row that is a path, word by word as the table has it."""
    rooms = Rooms(system, machine)
    prefixes = [r[:k] for k in range(1, len(r))]
    suffixes = [r[k:] for k in range(1, len(r))]
    inner = [r[i:j] for i in range(1, len(r)) for j in range(i + 1, len(r))]
    if way == "begins":
        found = [(rooms.room(r), 0)] + [(rooms.room(u), 1) for u in prefixes]
    elif way == "begun":
        found = [(rooms.room(r), 0)]
    elif way in ("ends", "overlaps"):
        found = [(rooms.room(u), 0) for u in suffixes]
    elif way == "during":
        found = [(rooms.room(u), 0) for u in suffixes] + [(rooms.room(u), 1) for u in inner]
    elif way in ("ended", "around"):
        found = [(at, 0) for _, at in rooms.with_ahead(r)]
    elif way == "overlapped":
        found = [(at, 0) for _, at in rooms.with_ahead(r)]
        found += [(at, 1) for v in prefixes for _, at in rooms.with_ahead(v)]
    else:
        found = [] if way in ("meets", "later") else [(r[0], 0)]
    return tuple(sorted(set(found)))


def path_state(system, part, machines, row):
    """The state of [7.3] behind a row."""
    word, end = part[0], row_end(system, row)
    if word == "point":
        return (end, 0 if end == -2 else min(len(row), 2))
    if word == "fact":
        return (end, 1 if end != -2 and all(part[1] in system[0][s] for s in row) else 0)
    if word in ("some", "all"):
        return (end, path_set(system, part[1], machines[0], row) if end >= 0 else ())
    return (end,) + tuple(room(machine, row) for machine in machines)


def path_state_after(system, part, machines, state, q):
    """The state behind one state of the system more, also for states of no row ([7.5])."""
    word, end = part[0], state[0]
    new = q if end == -1 or (end >= 0 and q in system[2][end]) else -2
    if word == "point":
        return (new, 0 if new == -2 else min(state[1] + 1, 2))
    if word == "fact":
        return (new, 1 if new != -2 and state[1] and part[1] in system[0][q] else 0)
    if word not in ("some", "all"):
        return (new,) + tuple(machine[1][at][q] for machine, at in zip(machines, state[1:]))
    if new == -2:
        return (-2, ())
    way, machine = part[1], machines[0]
    if end == -1:
        return (q, path_set(system, way, machine, (q,)))
    found = set()
    for at, mark in state[1]:
        if way in ("met", "earlier") or mark == 1:
            found.add((at, mark))
        else:
            found.add((machine[1][at][q], 0))
            if way in ("begins", "during", "overlapped"):
                found.add((at, 1))
    if way in ("ends", "overlaps", "during"):
        found.add((machine[1][0][q], 0))
    return (new, tuple(sorted(found)))


def path_state_rooms(system, way, machine, state):
    """The rooms of a way, told by the end and the set."""
    end, pairs = state
    rooms = Rooms(system, machine)
    if way in ("begins", "during", "overlapped"):
        return {at for at, mark in pairs if mark == 1}
    if way in ("ends", "ended"):
        return {at for at, _ in pairs}
    if way in ("begun", "around", "overlaps"):
        found = rooms.on(rooms.moved({(end, at) for at, _ in pairs}))
    elif way == "meets":
        found = rooms.on({rooms.alone(end)})
    elif way == "later":
        found = rooms.on({rooms.alone(s) for s in later_states(system, end)})
    elif way == "met":
        found = {p for p in rooms.every() if p[0] in [at for at, _ in pairs]}
    else:
        found = {p for p in rooms.every() if any(at in later_states(system, p[0]) for at, _ in pairs)}
    return {at for _, at in found}


def is_path_state_good(system, part, machines, state):
    if state[0] < 0:
        return False
    word = part[0]
    if word in ("point", "fact"):
        return state[1] == 1
    if word in ("some", "all"):
        told = [at in machines[0][2] for at in path_state_rooms(system, part[1], machines[0], state)]
        return any(told) if word == "some" else all(told)
    told = [at in machine[2] for machine, at in zip(machines, state[1:])]
    return {"not": not told[0], "and": all(told), "or": any(told)}[word]


def path_line(system, part, machines, most_states=400, most_rooms=60):
    """The line of [7.5] with the reader of a part; states from what the rows are, not from one another."""
    letters = tuple(range(len(system[0])))
    samples = {path_state(system, part, machines, ()): ()}
    moves = []
    for state in (order := list(samples)):
        row = []
        for q in letters:
            longer = samples[state] + (q,)
            after = path_state(system, part, machines, longer)
            if after not in samples:
                samples[after] = longer
                order.append(after)
            row.append(order.index(after))
        moves.append(row)
        if part[0] in ("some", "all") and len(order) > most_states:
            raise Large()
    goods = [is_path_state_good(system, part, machines, state) for state in order]
    machine, room_of = least(letters, moves, goods)
    if len(machine[1]) > most_rooms:
        raise Large()
    return machine, tuple(sorted((state, room_of[at]) for at, state in enumerate(order)))


def readers_paper(system, saying):
    """The paper of readers with the states of all rows."""
    lines = []
    for part, places in parts(saying):
        lines.append(path_line(system, part, [lines[k][0] for k in places]))
    return tuple(lines)


def plain_path_line(system, part, machines, extra):
    """A right line whose machine has a room for each state: those of all rows, extra ones, and all behind them."""
    order = [path_state(system, part, machines, ())]
    order += [state for state in dict.fromkeys(extra) if state not in order]
    moves = []
    for state in order:
        after = [path_state_after(system, part, machines, state, q) for q in range(len(system[0]))]
        order.extend(s for s in dict.fromkeys(after) if s not in order)
        moves.append(tuple(order.index(s) for s in after))
    goods = tuple(at for at, state in enumerate(order) if is_path_state_good(system, part, machines, state))
    machine = (tuple(range(len(system[0]))), tuple(moves), goods)
    return machine, tuple((state, at) for at, state in enumerate(order))
