"""The forms of the lines of scripts."""

from spansay.images import read_number
from spansay.scenes import SMALL_LETTERS

# What stands behind the first word of a line: each kind behind a single space.
FORMS = {
    "facts": ("words",),
    "add": ("scene",),
    "scene": ("number", "scene"),
    "first": ("number",),
    "plain": ("number",),
    "move": ("number", "number"),
    "stop": ("number", "number"),
    "drop": ("number",),
    "let": ("number",),
    "undo": (),
    "keep": ("rest",),
    "kept": (),
    "states": (),
    "all": ("rest",),
    "some": ("rest",),
    "least": ("rest",),
    "alike": ("up to bar", "behind bar"),
    "parted": ("up to bar", "behind bar"),
    "run": ("rest",),
    "near": ("rest",),
    "watch": ("rest",),
    "class": ("number", "words"),
    "branch": ("rest",),
    "chance": ("number", "rest"),
    "game": ("word", "word", "scene up to bar", "behind bar"),
    "holds": ("number", "number", "rest"),
    "why": ("number", "number", "rest"),
}


def is_letters(text):
    """Return True if a text is one or more small letters."""
    return len(text) > 0 and all([sign in SMALL_LETTERS for sign in text])


def words_in(text, allowed):
    """Return the tuple of the words of a text, None if one is neither small letters nor allowed."""
    words = tuple(text.split(" "))
    if not all([is_letters(word) or word in allowed for word in words]):
        return None
    return words


def scene_in(text):
    """Return the tuple of the facts that a text names, None for a text of another form."""
    words = words_in(text, ("-",))
    return () if words == ("-",) else words


def cut_off(kind, text):
    """Return the pair of the text that this kind takes, from the beginning on, and of what is left of it.

    What is left begins with the sign ahead of which the next kind stands, and is empty at the end.
    """
    if kind in ("word", "number"):
        taken, space, left = text.partition(" ")
        return (taken, space + left)
    if kind in ("up to bar", "scene up to bar"):
        taken, bar, left = text.partition("|")
        return (taken, bar + left)
    return (text, "")


def value_of(kind, text):
    """Return what a text of a kind tells, None if it is not of this kind."""
    if kind == "number":
        return read_number(text)
    if kind == "word":
        return text if is_letters(text) else None
    if kind == "words":
        return words_in(text, ())
    if kind in ("scene", "scene up to bar"):
        return scene_in(text)
    return text


def fields_of(line):
    """Return the list of the first word of a line and of what stands behind it, None for another form."""
    word, space, rest = line.partition(" ")
    if word not in FORMS:
        return None
    fields = [word]
    left = space + rest
    for kind in FORMS[word]:
        if not left.startswith("|" if kind == "behind bar" else " "):
            return None
        taken, left = cut_off(kind, left[1:])
        value = value_of(kind, taken)
        if value is None:
            return None
        fields.append(value)
    return None if left else fields
