"""Words, facts, scenes, and runs with their texts."""

from spansay.errors import BadForm, NotAllowed

MAX_WORD = 8
MAX_FACTS = 3
MAX_RUN = 40
MAX_RUN_TEXT = 2000
RESERVED = (
    "and", "or", "not", "some", "all", "point",
    "begins", "begun", "ends", "ended", "during", "around",
    "meets", "met", "later", "earlier", "overlaps", "overlapped",
)
WAYS = (
    "begins", "begun", "ends", "ended", "during", "around",
    "meets", "met", "later", "earlier", "overlaps", "overlapped",
)
SMALL_LETTERS = "abcdefghijklmnopqrstuvwxyz"


def is_word(text):
    """Return True if a text is a word."""
    if not 1 <= len(text) <= MAX_WORD or text in RESERVED:
        return False
    return all(sign in SMALL_LETTERS for sign in text)


def check_facts(facts):
    """Raise NotAllowed if a tuple of texts is not facts."""
    if not 1 <= len(facts) <= MAX_FACTS:
        raise NotAllowed(f"there are 1 to {MAX_FACTS} facts")
    for fact in facts:
        if not is_word(fact):
            raise NotAllowed("a fact is a word")
    if len(set(facts)) < len(facts):
        raise NotAllowed("facts are different words")


def is_scene(facts, scene):
    """Return True if a tuple of texts is a scene of the facts."""
    return scene == tuple([fact for fact in facts if fact in scene])


def is_run(facts, run):
    """Return True if a tuple of tuples of texts is a run."""
    return 1 <= len(run) <= MAX_RUN and all(is_scene(facts, scene) for scene in run)


def check_run(facts, run):
    """Raise NotAllowed if a tuple of tuples of texts is not a run."""
    if not is_run(facts, run):
        raise NotAllowed("this is not a run of these facts")


def scenes_of(facts):
    """Return the list of all scenes, in the order of their numbers."""
    scenes = [()]
    for fact in facts:
        scenes = scenes + [scene + (fact,) for scene in scenes]
    return scenes


def scene_text(scene):
    """Return the text of a scene."""
    return " ".join(scene) if scene else "-"


def run_text(run):
    """Return the text of a run."""
    return " ; ".join([scene_text(scene) for scene in run])


def read_scene(text):
    """Return the tuple of the words of a scene's text, of whatever facts they are."""
    words = tuple([word for word in text.split(" ") if word])
    if not words:
        raise BadForm(1)
    return () if words == ("-",) else words


def read_run(facts, text):
    """Return the run of a text, whose words may have more spaces around them."""
    if len(text) > MAX_RUN_TEXT:
        raise BadForm(1)
    run = tuple([read_scene(part) for part in text.split(";")])
    if not is_run(facts, run):
        raise BadForm(1)
    return run
