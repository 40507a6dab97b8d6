"""Images of stores: their texts, line by line."""

from spansay.errors import BadForm
from spansay.sayingtexts import read_saying, saying_text
from spansay.scenes import MAX_FACTS, is_scene, is_word, scene_text
from spansay.systems import MAX_STATES

DIGITS = "0123456789"
# No number in an image has more digits than the greatest one that may come next.
MOST_DIGITS = 7


def image_of(facts, system, kept, coming):
    """Return the image of a store; kept sayings are pairs of a number and a saying."""
    scenes, firsts, moves = system
    lines = [f"store {coming}"]
    lines.extend([f"fact {fact}" for fact in facts])
    for state, scene in enumerate(scenes):
        word = "first" if state in firsts else "state"
        lines.append(f"{word} {scene_text(scene)}")
    for row in moves:
        lines.append("to " + (" ".join([str(after) for after in row]) if row else "-"))
    lines.extend([f"keep {number} {saying_text(saying)}" for number, saying in kept])
    return "".join([line + "\n" for line in lines])


def read_number(text):
    """Return the integer of decimal digits without leading zeros, None for another text."""
    if not 1 <= len(text) <= MOST_DIGITS or not all([sign in DIGITS for sign in text]):
        return None
    if text[0] == "0" and len(text) > 1:
        return None
    return int(text)


class ImageReader:
    """Reads an image line by line. Each method returns False for a line that is not right."""

    def __init__(self, most_coming, most_kept):
        self.most_coming = most_coming
        self.most_kept = most_kept
        self.coming = 0
        self.facts = ()
        self.scenes = ()
        self.firsts = ()
        self.moves = ()
        self.kept = []

    def read(self, line):
        """Read a line, and return True if it is right where it stands."""
        word, space, rest = line.partition(" ")
        if not space:
            return False
        if self.coming == 0:
            return word == "store" and self.read_coming(rest)
        if word == "fact":
            return self.read_fact(rest)
        if word == "first" or word == "state":
            return self.read_state(word, rest)
        if word == "to":
            return self.read_moves(rest)
        return word == "keep" and self.read_kept(rest)

    def read_coming(self, text):
        """Read the number that comes next."""
        number = read_number(text)
        if number is None or not 1 <= number <= self.most_coming:
            return False
        self.coming = number
        return True

    def read_fact(self, text):
        """Read a fact."""
        if self.scenes or len(self.facts) == MAX_FACTS or not is_word(text) or text in self.facts:
            return False
        self.facts = self.facts + (text,)
        return True

    def read_state(self, word, text):
        """Read the scene of a state."""
        scene = () if text == "-" else tuple(text.split(" "))
        if not self.facts or self.moves or len(self.scenes) == MAX_STATES or not is_scene(self.facts, scene):
            return False
        if word == "first":
            self.firsts = self.firsts + (len(self.scenes),)
        self.scenes = self.scenes + (scene,)
        return True

    def read_moves(self, text):
        """Read the states to which moves lead from a state."""
        if not self.firsts or self.kept or len(self.moves) == len(self.scenes):
            return False
        row = []
        for part in [] if text == "-" else text.split(" "):
            state = read_number(part)
            if state is None or state >= len(self.scenes) or row and state <= row[-1]:
                return False
            row.append(state)
        self.moves = self.moves + (tuple(row),)
        return True

    def read_kept(self, text):
        """Read a kept saying with its number."""
        if not self.is_whole() or len(self.kept) == self.most_kept:
            return False
        word, space, rest = text.partition(" ")
        number = read_number(word)
        least = self.kept[-1][0] + 1 if self.kept else 1
        if not space or number is None or not least <= number < self.coming:
            return False
        saying = plain_saying(self.facts, rest)
        if saying is None:
            return False
        self.kept.append((number, saying))
        return True

    def is_whole(self):
        """Return True if the facts, states and rows of moves are all there."""
        return len(self.moves) > 0 and len(self.moves) == len(self.scenes)

    def system(self):
        """Return the system that was read."""
        return (self.scenes, self.firsts, self.moves)


def plain_saying(facts, text):
    """Return the saying of a plain text, None if it is none."""
    try:
        saying = read_saying(facts, text)
    except BadForm:
        return None
    return saying if saying_text(saying) == text else None


def read_image(text, most_coming, most_kept):
    """Return the reader that has read an image; raise BadForm with the number of its first bad line."""
    reader = ImageReader(most_coming, most_kept)
    lines = text.split("\n")
    rest = lines.pop()
    for number, line in enumerate(lines, start=1):
        if not reader.read(line):
            raise BadForm(number)
    if rest or not reader.is_whole():
        raise BadForm(len(lines) + 1)
    return reader
