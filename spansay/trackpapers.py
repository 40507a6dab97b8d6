"""Papers that show that machines are readers of sayings."""

from spansay.pathstates import PathStates
from spansay.takerpapers import check_lines, line_of
from spansay.tracks import reader_of, worked_readers


def readers_paper(system, saying):
    """Return the right paper of the readers of all parts, with the states of all rows."""
    return tuple([line_of(worked) for worked in worked_readers(system, saying)])


def judge_readers(system, saying, paper):
    """Raise TooLarge if the reader of a saying is too large, then BadPaper if a paper is not right."""
    reader_of(system, saying)
    check_lines(tuple(range(len(system[0]))), saying, PathStates(system), paper)
