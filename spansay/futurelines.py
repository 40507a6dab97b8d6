"""The lines of a future chain, made one after another; equal lines are made once."""

from spansay.chains import lines_in, needed_lines
from spansay.scenes import scenes_of


class FutureLines:
    """Lines over some facts. A line that hangs on the scene alone is also told by scenes.

    Some scenes are told as bits: the bit k is that of the scene with the number k.
    Lines that hold for the same scenes are the same line here.
    """

    def __init__(self, facts):
        self.facts = facts
        self.lines = []
        self.numbers = {}
        self.scenes_in = {}
        self.by_scenes = {}
        self.every = (1 << len(scenes_of(facts))) - 1
        self.yes = self.put(("yes",))
        self.enter(self.yes, self.every)
        self.no = self.put(("not", self.yes))
        self.enter(self.no, 0)

    def put(self, line):
        """Return the number of a line, which is made if it is not there already."""
        if line not in self.numbers:
            self.numbers[line] = len(self.lines)
            self.lines.append(line)
        return self.numbers[line]

    def enter(self, line, scenes):
        """Remember for which scenes a line holds."""
        self.scenes_in[line] = scenes
        self.by_scenes[scenes] = line

    def with_fact(self, index):
        """Return the scenes with a fact."""
        return sum([1 << scene for scene in range(self.every.bit_length()) if scene >> index & 1])

    def by_fact(self, scenes):
        """Return (index, one, other): scenes are `one` if there is the fact, and `other` if not."""
        for index in range(len(self.facts)):
            there = scenes & self.with_fact(index)
            one = there | there >> (1 << index)
            rest = scenes & ~self.with_fact(index)
            other = rest | rest << (1 << index)
            if one != other:
                return index, one, other
        return None

    def of_scenes(self, scenes):
        """Return the line that holds at the places with these scenes."""
        if scenes not in self.by_scenes:
            index, one, other = self.by_fact(scenes)
            here = self.put(("here", self.facts[index]))
            there = self.put_and(here, self.of_scenes(one))
            elsewhere = self.put_and(self.put(("not", here)), self.of_scenes(other))
            self.enter(self.put_or(there, elsewhere), scenes)
        return self.by_scenes[scenes]

    def are_opposite(self, one, other):
        """Return True if one of two lines is the `not` of the other one."""
        return self.lines[one] == ("not", other) or self.lines[other] == ("not", one)

    def put_and(self, one, other):
        """Return the line of an `and`, a simpler one if there is such."""
        if one == other or other == self.yes:
            return one
        if one == self.yes:
            return other
        if one == self.no or other == self.no or self.are_opposite(one, other):
            return self.no
        return self.put(("and", min(one, other), max(one, other)))

    def put_or(self, one, other):
        """Return the line of an `or`, a simpler one if there is such."""
        if one == other or other == self.no:
            return one
        if one == self.no:
            return other
        if one == self.yes or other == self.yes or self.are_opposite(one, other):
            return self.yes
        return self.put(("or", min(one, other), max(one, other)))

    def are_of_scenes(self, one, other):
        """Return True if both lines hang on the scene alone."""
        return one in self.scenes_in and other in self.scenes_in

    def not_of(self, line):
        """Return the line that holds where a line does not."""
        if line in self.scenes_in:
            return self.of_scenes(self.every ^ self.scenes_in[line])
        if self.lines[line][0] == "not":
            return self.lines[line][1]
        return self.put(("not", line))

    def and_of(self, one, other):
        """Return the line that holds where both lines do."""
        if self.are_of_scenes(one, other):
            return self.of_scenes(self.scenes_in[one] & self.scenes_in[other])
        return self.put_and(one, other)

    def or_of(self, one, other):
        """Return the line that holds where at least one of two lines does."""
        if self.are_of_scenes(one, other):
            return self.of_scenes(self.scenes_in[one] | self.scenes_in[other])
        return self.put_or(one, other)

    def until_of(self, one, other):
        """Return the line of an `until`."""
        return self.no if other == self.no else self.put(("until", one, other))

    def any_of(self, lines):
        """Return the line that holds where at least one of some lines does."""
        told = self.no
        for line in lines:
            told = self.or_of(told, line)
        return told

    def all_of(self, lines):
        """Return the line that holds where all of some lines do."""
        told = self.yes
        for line in lines:
            told = self.and_of(told, line)
        return told

    def chain_to(self, line):
        """Return the future chain whose last line is this one, with the lines that it needs."""
        lines = self.lines[:line + 1]
        places = {}
        chain = []
        for at in needed_lines(lines):
            places[at] = len(chain)
            parts = lines_in(lines[at])
            chain.append(lines[at][:1] + tuple([places[part] for part in parts]) if parts else lines[at])
        return tuple(chain)
