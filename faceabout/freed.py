"""Turnings where the whole row may be turned about for nothing."""

from faceabout.fewest import distance, fewest
from faceabout.turns import leads


def free_distance(one, other):
    """The fewest turnings from the one to the other."""
    # Whenever the whole row is turned about, it might as well have been done first.
    return min(distance(one, other), distance(one.backward(), other))


def free_way(one, other):
    """Whether the row one is turned about as a whole first, and a tuple of turnings that then lead to other."""
    is_turned = distance(one.backward(), other) < distance(one, other)
    return (is_turned, fewest(begun(one, is_turned), other))


def begun(row, is_turned):
    """The row, turned about as a whole if it says so."""
    return row.backward() if is_turned else row


def is_free_way(one, other, value):
    """Whether any value is such a pair for these two rows, of however many waggons."""
    many = free_distance(one, other)
    if not isinstance(value, tuple) or len(value) != 2:
        return False
    is_turned, turnings = value
    return isinstance(is_turned, bool) and leads(begun(one, is_turned), other, turnings, many)
