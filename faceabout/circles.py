"""Circles of waggons, turned at arcs."""

from faceabout.checks import is_pair
from faceabout.errors import BadNumber, BadTurn, TooGreat
from faceabout.fewest import to_go, turnings_onward
from faceabout.rows import Row, seen
from faceabout.turns import turned

# One waggon more than rows that are led, since waggon 1 stays where it is.
MOST_LED_AROUND = 11


class Circle:
    """A circle; it never changes."""

    def __init__(self, waggons):
        row = Row(waggons)
        if len(row) == 0:
            raise BadNumber(0)
        self.waggons = stored(row)

    def __len__(self):
        return len(self.waggons)

    def __eq__(self, other):
        return isinstance(other, Circle) and self.waggons == other.waggons

    def rest(self):
        """The row of all waggons but waggon 1, as they stand behind it, each numbered by 1 less."""
        return Row([waggon - 1 if waggon > 0 else waggon + 1 for waggon in self.waggons[1:]])

    def turned_at(self, arc):
        """The circle that is turned at an arc."""
        if not is_pair(arc, len(self) - 1):
            raise BadTurn(0)
        first, last = arc
        row = Row(begun_at(self.waggons, first))
        behind = turned(row, (0, (last - first) % len(row)))
        return Circle(behind.waggons)

    def run(self, arcs):
        """The circle behind a list or tuple of arcs, one after another."""
        if not isinstance(arcs, (list, tuple)):
            raise BadTurn(None)
        now = self
        for number, arc in enumerate(arcs):
            if not is_pair(arc, len(now) - 1):
                raise BadTurn(number)
            now = now.turned_at(arc)
        return now

    def distance(self, other):
        """The fewest arcs at which the circle must be turned to become the other one."""
        return to_go(seen(self.rest(), other.rest()))

    def fewest(self, other):
        """A tuple of as few arcs as can be that leads to the other one."""
        row = seen(self.rest(), other.rest())
        if len(self) > MOST_LED_AROUND:
            raise TooGreat(MOST_LED_AROUND)
        # The rest begins behind waggon 1, at place 1 of the stored row.
        return tuple([(first + 1, last + 1) for first, last in turnings_onward(row)])


def stored(row):
    """The waggons of a row, gone around so that waggon 1 comes first, facing on."""
    faced = row if row.at(row.place_of(1)) > 0 else row.backward()
    return begun_at(faced.waggons, faced.place_of(1))


def begun_at(waggons, place):
    """The waggons from a place on, and behind the last one those ahead of it."""
    return waggons[place:] + waggons[:place]
