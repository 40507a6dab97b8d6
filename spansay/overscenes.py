"""Machines over the scenes of facts."""

from spansay.errors import NotAllowed
from spansay.scenes import scenes_of


def check_over_scenes(facts, machine):
    """Raise NotAllowed if the letters of a machine are not all scenes, in order."""
    if machine[0] != tuple(scenes_of(facts)):
        raise NotAllowed("the letters of the machine are not the scenes, in order")
