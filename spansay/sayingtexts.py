"""The plain text of a saying, and reading sayings from texts."""

from spansay.errors import BadForm
from spansay.sayings import MAX_NODES
from spansay.scenes import WAYS

MAX_SAYING_TEXT = 1000
MAX_GROUPS = 40
JOINED = ("and", "or")


def grouped_text(saying, words):
    """Return the text of a part, in parentheses if its own word is one of these."""
    text = saying_text(saying)
    return f"({text})" if saying[0] in words else text


def saying_text(saying):
    """Return the plain text of a saying."""
    word = saying[0]
    if word == "point":
        return word
    if word == "fact":
        return saying[1]
    if word == "not":
        return "not " + grouped_text(saying[1], JOINED)
    if word == "some" or word == "all":
        return word + " " + saying[1] + " " + grouped_text(saying[2], JOINED)
    if word == "and":
        return grouped_text(saying[1], ("or",)) + " and " + grouped_text(saying[2], JOINED)
    return saying_text(saying[1]) + " or " + grouped_text(saying[2], ("or",))


class Reader:
    """Reads the parts of a text of a saying, from the first one on."""

    def __init__(self, facts, parts):
        self.facts = facts
        self.parts = parts
        self.at = 0

    def coming(self):
        """Return the part that comes next, the empty text behind the last one."""
        return self.parts[self.at] if self.at < len(self.parts) else ""

    def take(self):
        """Return the part that comes next, and go on behind it."""
        part = self.coming()
        self.at += 1
        return part

    def read_or(self):
        """Read a saying: rows of `and`, joined by `or`."""
        read = self.read_and()
        while self.coming() == "or":
            self.at += 1
            read = ("or", read, self.read_and())
        return read

    def read_and(self):
        """Read a row of `and`."""
        read = self.read_single()
        while self.coming() == "and":
            self.at += 1
            read = ("and", read, self.read_single())
        return read

    def read_single(self):
        """Read a saying that holds together without parentheses."""
        word = self.take()
        if word == "not":
            return ("not", self.read_single())
        if word == "some" or word == "all":
            return (word, self.read_way(), self.read_single())
        if word == "(":
            return self.read_group()
        if word == "point":
            return ("point",)
        if word not in self.facts:
            raise BadForm(1)
        return ("fact", word)

    def read_way(self):
        """Read a way."""
        word = self.take()
        if word not in WAYS:
            raise BadForm(1)
        return word

    def read_group(self):
        """Read a saying up to its closing parenthesis."""
        read = self.read_or()
        if self.take() != ")":
            raise BadForm(1)
        return read


def check_parts(parts):
    """Raise BadForm if there are too many nodes, or parentheses within one another."""
    # This stands ahead of the reading, which goes deeper with each of them.
    nodes = [part for part in parts if part not in WAYS and part not in ("(", ")")]
    if len(nodes) > MAX_NODES:
        raise BadForm(1)
    groups = 0
    for part in parts:
        if part == "(":
            groups += 1
        if part == ")":
            groups -= 1
        if groups > MAX_GROUPS:
            raise BadForm(1)


def read_saying(facts, text):
    """Return the saying of a text."""
    if len(text) > MAX_SAYING_TEXT:
        raise BadForm(1)
    spaced = text.replace("(", " ( ").replace(")", " ) ")
    parts = [part for part in spaced.split(" ") if part]
    check_parts(parts)
    reader = Reader(facts, parts)
    saying = reader.read_or()
    if reader.at != len(parts):
        raise BadForm(1)
    return saying
