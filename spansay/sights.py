"""Sights: games whose builder does not see all facts of the breaker."""

from spansay.errors import NotAllowed
from spansay.games import check_game
from spansay.scenes import is_scene, scenes_of

AIMS = ("always", "once", "often")


def facts_of_breaker(facts, own):
    """Return the tuple of the facts that are not the builder's."""
    return tuple([fact for fact in facts if fact not in own])


def check_sight(facts, sight):
    """Raise NotAllowed if a tuple of two tuples of texts and two texts is not a sight."""
    own, seen, first, goal = sight
    check_game(facts, (own, first, goal))
    if not is_scene(facts_of_breaker(facts, own), seen):
        raise NotAllowed("the builder sees some of the breaker's facts, in their order")


def choices_for(sight):
    """Return the list of the builder's choices."""
    return scenes_of(sight[0])


def glimpses_of(sight):
    """Return the list of the glimpses."""
    return scenes_of(sight[1])


def others_of(facts, sight):
    """Return the list of the breaker's choices."""
    return scenes_of(facts_of_breaker(facts, sight[0]))


def glimpse_of(sight, choice):
    """Return what the builder sees of a choice of the breaker."""
    return tuple([fact for fact in sight[1] if fact in choice])
