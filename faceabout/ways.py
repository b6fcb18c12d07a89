"""The fewest rows of turnings between two rows: how many, all of them, and their numbers."""

from faceabout.checks import is_whole
from faceabout.errors import BadNumber, BadWay
from faceabout.fewest import nearer_turns, seen_within, to_go
from faceabout.rows import onward
from faceabout.turns import leads, turned

MOST_WAYS = 6


class Guide:
    """What it has found out of the ways to the row onward, by the waggons of the rows that they pass."""

    # Many ways pass the same row, so that each row is looked at once.
    def __init__(self):
        self.steps = {}
        self.counts = {}

    def steps_from(self, row):
        """The first turnings of all ways from a row, ascending, each with the row behind it."""
        if row.waggons not in self.steps:
            self.steps[row.waggons] = [(turning, turned(row, turning)) for turning in nearer_turns(row)]
        return self.steps[row.waggons]

    def count_from(self, row):
        """How many ways there are from a row."""
        if row.waggons not in self.counts:
            behind = [self.count_from(nearer) for turning, nearer in self.steps_from(row)]
            # No turning leads nearer from the row onward alone, and from there the empty way leads.
            self.counts[row.waggons] = sum(behind) if behind else 1
        return self.counts[row.waggons]


def count_ways(one, other):
    """How many rows of turnings are fewest for the two rows."""
    # Turnings turn places, so that the same ways lead the row that is seen to the row onward.
    return Guide().count_from(seen_within(one, other, MOST_WAYS))


def ways(one, other):
    """A generator of the fewest rows of turnings, ascending."""
    guide = Guide()
    begun = [((), seen_within(one, other, MOST_WAYS))]
    while begun:
        way, row = begun.pop()
        steps = guide.steps_from(row)
        if not steps:
            yield way
        # The last one that is put there is taken next, and it must be the least.
        for turning, nearer in steps[::-1]:
            begun.append((way + (turning,), nearer))


def way_at(one, other, number):
    """The fewest row of turnings with this number, counted from 0."""
    row = seen_within(one, other, MOST_WAYS)
    guide = Guide()
    if not is_whole(number, 0, guide.count_from(row) - 1):
        raise BadNumber(number)
    way = ()
    left = number
    while guide.steps_from(row):
        turning, row, left = step_at(guide, row, left)
        way = way + (turning,)
    return way


def step_at(guide, row, number):
    """The first turning of the way with this number, the row behind it, and the way's number from there."""
    steps = guide.steps_from(row)
    left = number
    place = 0
    while left >= guide.count_from(steps[place][1]):
        left = left - guide.count_from(steps[place][1])
        place = place + 1
    turning, nearer = steps[place]
    return turning, nearer, left


def way_number(one, other, value):
    """The number of a fewest row of turnings."""
    row = seen_within(one, other, MOST_WAYS)
    if not leads(row, onward(len(row)), value, to_go(row)):
        raise BadWay(value)
    guide = Guide()
    number = 0
    for turning in value:
        less = [nearer for first, nearer in guide.steps_from(row) if first < turning]
        number = number + sum([guide.count_from(nearer) for nearer in less])
        row = turned(row, turning)
    return number
