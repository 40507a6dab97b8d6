"""Plays of a game in which a player chooses by a paper."""

from spansay.errors import Missing, NotAllowed
from spansay.games import AT_ONCE, bits_of, choices_of, hits_of, judge_win, other_player, seeker_of
from spansay.machines import lets_of
from spansay.scenes import scenes_of


class Player:
    """A play in which a player chooses by a paper, and the other player's choices are told to it."""

    def __init__(self, facts, game, machine, player, paper):
        judge_win(facts, game, machine, player, paper)
        others = choices_of(facts, game, other_player(player))
        # All choices are kept as bits: those of both players together are a scene's number.
        self._others = {choice: bits for choice, bits in zip(others, bits_of(facts, others))}
        self._places = {choice: place for place, choice in enumerate(others)}
        self._plan = {room: (choices, bits_of(facts, choices)) for room, _, choices in paper}
        self._is_first = player == game[1]
        self._ends = player == seeker_of(game) and game[2] in AT_ONCE
        self._scenes = scenes_of(facts)
        self._moves = machine[1]
        self._lets = lets_of(machine)
        self._hits = hits_of(game, machine)
        self._made = []
        self._rooms = [0]

    def _check_goes_on(self):
        """Raise Missing if the play is over."""
        if self.is_over():
            raise Missing("the play is over")

    def now(self):
        """Return the player's choice for the next place if this player is first, otherwise None."""
        self._check_goes_on()
        return self._plan[self._rooms[-1]][0][0] if self._is_first else None

    def take(self, choice):
        """Take the other player's choice for the next place, and return the scene of the place."""
        self._check_goes_on()
        if choice not in self._others:
            raise NotAllowed("this is no choice of the other player")
        room = self._rooms[-1]
        place = 0 if self._is_first else self._places[choice]
        number = self._plan[room][1][place] + self._others[choice]
        self._made.append(self._scenes[number])
        self._rooms.append(self._moves[room][number])
        return self._scenes[number]

    def is_over(self):
        """Return True if the player is a seeker whom one hit is enough, and it has come."""
        # Behind a hit there is no further place: so it is the last one, if it has come.
        return self._ends and len(self._rooms) > 1 and self._hits[self._rooms[-1]]

    def run(self):
        """Return the tuple of the scenes so far."""
        return tuple(self._made)

    def kept(self):
        """Return the list that has for each place whether the machine lets the run up to there by."""
        return [self._lets[room] for room in self._rooms[1:]]

    def back(self):
        """Take the last scene back."""
        if not self._made:
            raise Missing("there is no scene to take back")
        self._made.pop()
        self._rooms.pop()
