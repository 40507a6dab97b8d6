"""Plays of two players about a saying and a stretch."""

from spansay.errors import Missing, NotAllowed
from spansay.meaning import reached
from spansay.spans import check_stretch
from spansay.truths import truth_of


class Spot:
    """A position of a play: a saying without `not` in front, a stretch, who claims."""

    def __init__(self, truth, stretch, claims):
        while truth.saying[0] == "not":
            truth = truth.parts[0]
            claims = 1 - claims
        self.truth = truth
        self.stretch = stretch
        self.claims = claims

    def winning(self):
        """Return the player who has won, or can win."""
        return self.claims if self.truth.is_true(self.stretch) else 1 - self.claims

    def chooser(self):
        """Return the player who has to choose if there is a choice."""
        return self.claims if self.truth.saying[0] in ("or", "some") else 1 - self.claims

    def ways_on(self, many):
        """Return the list of the choices, for a run of so many places."""
        word = self.truth.saying[0]
        if word == "and" or word == "or":
            return [0, 1]
        if word == "some" or word == "all":
            return reached(many, self.truth.saying[1], self.stretch[0], self.stretch[1])
        return []

    def behind(self, choice):
        """Return the position behind a choice."""
        word = self.truth.saying[0]
        if word == "and" or word == "or":
            return Spot(self.truth.parts[choice], self.stretch, self.claims)
        return Spot(self.truth.parts[0], choice, self.claims)


class Play:
    """A play about a saying and a stretch of a run."""

    def __init__(self, run, saying, first, last):
        check_stretch(len(run), first, last)
        self._many = len(run)
        self._spots = [Spot(truth_of(run, saying), (first, last), 0)]
        self._made = []

    def position(self):
        """Return the saying, the stretch and the player who claims."""
        spot = self._spots[-1]
        return (spot.truth.saying, spot.stretch, spot.claims)

    def turn(self):
        """Return the player who has to choose, -1 if the play is over."""
        return self._spots[-1].chooser() if self.choices() else -1

    def choices(self):
        """Return the list of the choices there are."""
        return self._spots[-1].ways_on(self._many)

    def made(self):
        """Return the list of the choices that have been made."""
        return list(self._made)

    def choose(self, choice):
        """Make a choice."""
        if choice not in self.choices():
            raise NotAllowed("this is none of the choices")
        self._spots.append(self._spots[-1].behind(choice))
        self._made.append(choice)

    def winner(self):
        """Return the player who has won, or can win whatever the other one chooses."""
        return self._spots[-1].winning()

    def advice(self):
        """Return the first choice behind which the player who has to choose can win."""
        spot = self._spots[-1]
        for choice in self.choices():
            if spot.behind(choice).winning() == spot.chooser():
                return choice
        raise Missing("there is no choice behind which this player can win")

    def back(self):
        """Take the last choice back."""
        if not self._made:
            raise Missing("no choice was made")
        self._spots.pop()
        self._made.pop()
