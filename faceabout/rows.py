"""Rows of waggons, and rows seen from other ones."""

from faceabout.checks import is_whole
from faceabout.errors import BadNumber, BadPlace, BadRow, OtherLength, TooGreat

MOST_WAGGONS = 24


class Row:
    """A row of waggons; it never changes."""

    def __init__(self, waggons):
        if not isinstance(waggons, (list, tuple)):
            raise BadRow(None)
        if len(waggons) > MOST_WAGGONS:
            raise TooGreat(MOST_WAGGONS)
        fault = first_fault(waggons)
        if fault is not None:
            raise BadRow(fault)
        self.waggons = tuple(waggons)

    def __len__(self):
        return len(self.waggons)

    def __eq__(self, other):
        return isinstance(other, Row) and self.waggons == other.waggons

    def at(self, place):
        """The waggon at a place."""
        if not is_whole(place, 0, len(self.waggons) - 1):
            raise BadPlace(place)
        return self.waggons[place]

    def place_of(self, number):
        """The place of a waggon, whichever way it faces."""
        if not is_whole(number, 1, len(self.waggons)):
            raise BadNumber(number)
        return [abs(waggon) for waggon in self.waggons].index(number)

    def backs(self):
        """How many waggons face back."""
        return len([waggon for waggon in self.waggons if waggon < 0])

    def framed(self):
        """The waggons as a tuple, with 0 ahead and n + 1 behind."""
        return (0, *self.waggons, len(self.waggons) + 1)

    def inverse(self):
        """The row in which places and waggons have changed their parts."""
        names = [0] * len(self.waggons)
        for place, waggon in enumerate(self.waggons):
            names[abs(waggon) - 1] = facing_like(waggon, place + 1)
        return Row(names)

    def backward(self):
        """The row turned about as a whole."""
        return Row([-waggon for waggon in self.waggons[::-1]])


def first_fault(waggons):
    """The place of the first item that no row has there, None if there is none."""
    many = len(waggons)
    numbers = set()
    for place, waggon in enumerate(waggons):
        if not is_whole(waggon, -many, many) or waggon == 0 or abs(waggon) in numbers:
            return place
        numbers.add(abs(waggon))
    return None


def facing_like(waggon, name):
    """The name, facing the other way if the waggon faces back."""
    return name if waggon > 0 else -name


def onward(many):
    """The row onward of so many waggons."""
    if not is_whole(many, 0, MOST_WAGGONS):
        raise BadNumber(many)
    return Row(list(range(1, many + 1)))


def seen(one, other):
    """The row one, seen from other."""
    # The inverse of other tells where each waggon stands there, and how it faces.
    return renamed(one, other.inverse())


def renamed(one, names):
    """The row one, each waggon v of which is the waggon at place v - 1 of names."""
    if len(one) != len(names):
        raise OtherLength()
    return Row([facing_like(waggon, names.at(abs(waggon) - 1)) for waggon in one.waggons])
