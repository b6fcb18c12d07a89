"""Turnings of rows, alone and one after another."""

from faceabout.checks import is_stretch, is_whole
from faceabout.errors import BadNumber, BadTurn, OtherLength
from faceabout.rows import MOST_WAGGONS, Row


def is_turning(row, value):
    """Whether any value is a turning of the row."""
    return is_stretch(value, len(row) - 1)


def turned(row, turning):
    """The row behind a turning."""
    if not is_turning(row, turning):
        raise BadTurn(0)
    first, last = turning
    stretch = row.waggons[first:last + 1]
    about = tuple([-waggon for waggon in stretch[::-1]])
    return Row(row.waggons[:first] + about + row.waggons[last + 1:])


def run(row, turnings):
    """The row behind a list or tuple of turnings, one after another."""
    if not isinstance(turnings, (list, tuple)):
        raise BadTurn(None)
    now = row
    for number, turning in enumerate(turnings):
        if not is_turning(now, turning):
            raise BadTurn(number)
        now = turned(now, turning)
    return now


def leads(one, other, value, many):
    """Whether any value is a tuple of so many turnings that lead from the one row to the other."""
    if not isinstance(value, tuple) or len(value) != many:
        return False
    now = one
    for turning in value:
        if not is_turning(now, turning):
            return False
        now = turned(now, turning)
    return now == other


def turnings_of(many):
    """An ascending tuple of all turnings of rows of so many waggons."""
    if not is_whole(many, 0, MOST_WAGGONS):
        raise BadNumber(many)
    return tuple([(first, last) for first in range(many) for last in range(first, many)])


def turning_between(one, other):
    """The turning that leads from the one to the other, None if there is none."""
    if len(one) != len(other):
        raise OtherLength()
    # A turning changes the waggons at both its ends, and none outside of them.
    places = [place for place in range(len(one)) if one.at(place) != other.at(place)]
    if not places:
        return None
    turning = (places[0], places[-1])
    return turning if turned(one, turning) == other else None
