"""All rows of few waggons, counted by how far they are, and by their rings."""

from faceabout.checks import is_whole
from faceabout.errors import BadNumber
from faceabout.fewest import to_go
from faceabout.rings import many_rings
from faceabout.rows import Row

MOST_COUNTED = 5


def rows_of(many):
    """A generator of all rows of so many waggons, ascending by their waggons."""
    if not is_whole(many, 0, MOST_COUNTED):
        raise BadNumber(many)
    for waggons in all_waggons(many):
        yield Row(waggons)


def all_waggons(many):
    """An ascending list of the waggons of all rows of so many waggons."""
    begun = [()]
    for place in range(many):
        begun = [ahead + (waggon,) for ahead in begun for waggon in waggons_left(ahead, many)]
    return begun


def waggons_left(ahead, many):
    """The waggons that can stand behind these ones, ascending."""
    numbers = [abs(waggon) for waggon in ahead]
    return [waggon for waggon in range(-many, many + 1) if waggon != 0 and abs(waggon) not in numbers]


def spread(many):
    """How many rows need how many turnings to come to the row onward."""
    known = list(rows_of(many))
    return tally([to_go(row) for row in known])


def ring_spread(many):
    """How many rows have how many rings."""
    known = list(rows_of(many))
    return tally([many_rings(row) for row in known])


def tally(numbers):
    """How often each number is among these, by number, ascending."""
    found = {}
    for number in sorted(numbers):
        found[number] = found.get(number, 0) + 1
    return found


def farthest(many):
    """The most turnings that a row of so many waggons needs."""
    return max(list(spread(many)))


def farthest_rows(many):
    """An ascending tuple of the rows that need so many."""
    known = list(rows_of(many))
    needed = [to_go(row) for row in known]
    most = max(needed)
    return tuple([row for row, number in zip(known, needed) if number == most])
