"""What can be chosen and seen by a sight, told by numbers.

Choices are told by their places among the choices, and by their bits in the numbers of scenes.
"""

from spansay.games import bits_of
from spansay.sights import choices_for, glimpse_of, glimpses_of, others_of


class Glances:
    """The choices of both players, and the glimpses."""

    def __init__(self, facts, sight):
        self.choices = choices_for(sight)
        self.others = others_of(facts, sight)
        self.glimpses = glimpses_of(sight)
        self.is_first = sight[2] == "builder"
        self.bits = bits_of(facts, self.choices)
        self.other_bits = bits_of(facts, self.others)
        # The place of the glimpse of each choice of the breaker.
        self.seen = [self.glimpses.index(glimpse_of(sight, other)) for other in self.others]

    def place_of_choice(self, glimpse):
        """Return the place in a row's choices of the one that is due with a glimpse."""
        return 0 if self.is_first else glimpse

    def many_choices(self):
        """Return the number of the choices in a row."""
        return 1 if self.is_first else len(self.glimpses)

    def scenes_with(self, choice, glimpse):
        """Return the list of the numbers of the scenes that a choice and a glimpse may give."""
        return [
            self.bits[choice] + bits
            for bits, seen in zip(self.other_bits, self.seen) if seen == glimpse
        ]
