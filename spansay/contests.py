"""Contests over two runs, whose asker tries to show that they differ."""

from spansay.errors import NotAllowed
from spansay.meaning import reached
from spansay.types import tables_by_depth


class Look:
    """A position of a contest: the two stretches, the rounds left, and what was asked.

    `asked` is None if the asker has to choose; otherwise it is the pair of the
    number of the run and of the way that the asker has chosen.
    """

    def __init__(self, stretches, left, asked):
        self.pair = stretches
        self.rounds = left
        self.asked = asked


class Contest:
    """A contest over two runs."""

    def __init__(self, first, second, ways, rounds):
        self._lengths = (len(first), len(second))
        self._ways = ways
        self._depths = tables_by_depth((first, second), ways, rounds)
        whole = ((0, len(first) - 1), (0, len(second) - 1))
        self._looks = [Look(whole, rounds, None)]
        self._chosen = []

    def _kind(self, number, stretch, depth):
        """Return the number of the type of a stretch of a run."""
        return self._depths[depth][number][stretch[0]][stretch[1]]

    def _same(self, pair, depth):
        """Return True if two stretches, one of each run, have the same type of a depth."""
        return self._kind(0, pair[0], depth) == self._kind(1, pair[1], depth)

    def _reached(self, number, way, pair):
        """Return the list of the stretches to which a way leads in the run with a number."""
        return reached(self._lengths[number], way, pair[number][0], pair[number][1])

    def _questions(self, look):
        """Return the list of all choices of the asker."""
        if look.rounds == 0 or not self._same(look.pair, 0):
            return []
        questions = []
        for number in range(2):
            for way in self._ways:
                for first, last in self._reached(number, way, look.pair):
                    questions.append((number, way, first, last))
        return questions

    def _winner_at(self, look):
        """Return who can win, or has won, at a position."""
        if look.asked is None:
            return "answerer" if self._same(look.pair, look.rounds) else "asker"
        number, way = look.asked
        kind = self._kind(number, look.pair[number], look.rounds)
        for answer in self._reached(1 - number, way, look.pair):
            if self._kind(1 - number, answer, look.rounds) == kind:
                return "answerer"
        return "asker"

    def _behind(self, look, choice):
        """Return the position behind a choice."""
        pair = list(look.pair)
        if look.asked is None:
            number, way, first, last = choice
            pair[number] = (first, last)
            return Look(tuple(pair), look.rounds - 1, (number, way))
        pair[1 - look.asked[0]] = choice
        return Look(tuple(pair), look.rounds, None)

    def stretches(self):
        """Return the pair of the two stretches that are looked at."""
        return self._looks[-1].pair

    def left(self):
        """Return the number of the rounds that are left."""
        return self._looks[-1].rounds

    def to_choose(self):
        """Return who has to choose, None if the contest is over."""
        if not self.options():
            return None
        return "asker" if self._looks[-1].asked is None else "answerer"

    def winner(self):
        """Return who can win, or has won."""
        return self._winner_at(self._looks[-1])

    def options(self):
        """Return the list of all choices of the one who has to choose."""
        look = self._looks[-1]
        if look.asked is None:
            return self._questions(look)
        number, way = look.asked
        return self._reached(1 - number, way, look.pair)

    def advice(self):
        """Return the first choice behind which the one who has to choose can win, or None."""
        look = self._looks[-1]
        winner = self._winner_at(look)
        if winner != self.to_choose():
            return None
        for choice in self.options():
            if self._winner_at(self._behind(look, choice)) == winner:
                return choice
        return None

    def choose(self, choice):
        """Make a choice of the one who has to choose."""
        if choice not in self.options():
            raise NotAllowed("this is none of the options")
        self._looks.append(self._behind(self._looks[-1], choice))
        self._chosen.append(choice)

    def back(self):
        """Take the last choice back."""
        if not self._chosen:
            raise NotAllowed("no choice was made")
        self._looks.pop()
        self._chosen.pop()

    def choices(self):
        """Return the tuple of all choices that were made, in order."""
        return tuple(self._chosen)
