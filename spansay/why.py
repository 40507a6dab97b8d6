"""Papers that show why a saying holds of a stretch, or why it does not."""

from spansay.errors import BadPaper, TooLarge
from spansay.meaning import reached
from spansay.spans import check_stretch, is_pair, leads_to
from spansay.truths import truth_of

MAX_PAPER = 3000


class Writer:
    """Writes the paper of a run, and counts the papers in it."""

    def __init__(self, many):
        self.many = many
        self.size = 0

    def written(self, truth, stretch, yes):
        """Return the paper that a saying holds of a stretch (yes is True), or does not."""
        word = truth.saying[0]
        if word == "not":
            return self.written(truth.parts[0], stretch, not yes)
        self.size += 1
        if self.size > MAX_PAPER:
            raise TooLarge(f"the paper has a size of more than {MAX_PAPER}")
        if word == "some" or word == "all":
            return self.of_way(truth, stretch, yes)
        if word == "and" or word == "or":
            return self.of_parts(truth, stretch, yes)
        return ()

    def of_parts(self, truth, stretch, yes):
        """Return the paper of an `and` or an `or`."""
        first, second = truth.parts
        if (truth.saying[0] == "and") == yes:
            one = self.written(first, stretch, yes)
            return ("both", one, self.written(second, stretch, yes))
        k = 0 if first.is_true(stretch) == yes else 1
        return ("one", k, self.written(truth.parts[k], stretch, yes))

    def of_way(self, truth, stretch, yes):
        """Return the paper of a `some` or an `all`."""
        part = truth.parts[0]
        to = reached(self.many, truth.saying[1], stretch[0], stretch[1])
        if (truth.saying[0] == "all") == yes:
            return ("each",) + tuple([self.written(part, after, yes) for after in to])
        taken = [after for after in to if part.is_true(after) == yes][0]
        return ("take", taken, self.written(part, taken, yes))


def paper_of(run, saying, first, last):
    """Return whether a saying holds of a stretch, and the paper that shows it."""
    check_stretch(len(run), first, last)
    truth = truth_of(run, saying)
    yes = truth.is_true((first, last))
    return yes, Writer(len(run)).written(truth, (first, last), yes)


def size_of(paper):
    """Return the number of the papers in a paper, itself included."""
    if paper and paper[0] in ("one", "take"):
        return 1 + size_of(paper[2])
    return 1 + sum([size_of(part) for part in paper[1:]])


class Judge:
    """Judges papers of the parts of a saying; it keeps the last right one of each claim."""

    def __init__(self, many):
        self.many = many
        self.right = {}

    def is_right(self, truth, stretch, yes, paper):
        """Return True if a value is a paper that shows a claim."""
        if truth.saying[0] == "not":
            return self.is_right(truth.parts[0], stretch, not yes, paper)
        # A paper may hold one and the same paper so often that it could never be
        # gone through each time.
        claim = (truth, stretch, yes)
        if claim in self.right and self.right[claim] == paper:
            return True
        if not self.shows(truth, stretch, yes, paper):
            return False
        self.right[claim] = paper
        return True

    def shows(self, truth, stretch, yes, paper):
        """Return True if a value has the form of its row in the table, with right papers in it."""
        word = truth.saying[0]
        if word == "fact" or word == "point":
            return paper == () and truth.is_true(stretch) == yes
        if not isinstance(paper, tuple) or not paper:
            return False
        if word == "and" or word == "or":
            if (word == "and") == yes:
                return self.shows_both(truth, stretch, yes, paper)
            return self.shows_one(truth, stretch, yes, paper)
        if (word == "all") == yes:
            return self.shows_each(truth, stretch, yes, paper)
        return self.shows_take(truth, stretch, yes, paper)

    def shows_both(self, truth, stretch, yes, paper):
        if len(paper) != 3 or paper[0] != "both":
            return False
        if not self.is_right(truth.parts[0], stretch, yes, paper[1]):
            return False
        return self.is_right(truth.parts[1], stretch, yes, paper[2])

    def shows_one(self, truth, stretch, yes, paper):
        if len(paper) != 3 or paper[0] != "one" or paper[1] not in (0, 1):
            return False
        return self.is_right(truth.parts[paper[1]], stretch, yes, paper[2])

    def shows_each(self, truth, stretch, yes, paper):
        to = reached(self.many, truth.saying[1], stretch[0], stretch[1])
        if paper[0] != "each" or len(paper) != len(to) + 1:
            return False
        for after, shown in zip(to, paper[1:]):
            if not self.is_right(truth.parts[0], after, yes, shown):
                return False
        return True

    def shows_take(self, truth, stretch, yes, paper):
        if len(paper) != 3 or paper[0] != "take" or not is_pair(paper[1]):
            return False
        if not leads_to(self.many, truth.saying[1], stretch, paper[1]):
            return False
        return self.is_right(truth.parts[0], paper[1], yes, paper[2])


def judge_paper(run, saying, first, last, yes, paper):
    """Raise BadPaper if a value is not a paper that a saying holds (yes is True), or does not."""
    check_stretch(len(run), first, last)
    if not Judge(len(run)).is_right(truth_of(run, saying), (first, last), yes, paper):
        raise BadPaper("this is not a paper that shows it")
