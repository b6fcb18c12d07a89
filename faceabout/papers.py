"""Papers: fewest rows of turnings behind a word, for others to look through."""

from faceabout.fewest import distance, fewest
from faceabout.turns import leads

WORD = "turns"


def paper(one, other):
    """A pair of the word and of a tuple of as few turnings as can be that leads from the one to the other."""
    return (WORD, fewest(one, other))


def is_paper(one, other, value):
    """Whether any value is such a pair for these two rows, of however many waggons."""
    if len(one) != len(other) or not isinstance(value, tuple) or len(value) != 2:
        return False
    word, turnings = value
    return isinstance(word, str) and word == WORD and leads(one, other, turnings, distance(one, other))
