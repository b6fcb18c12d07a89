"""Rows put together from smaller ones, as tuples of waggons, and drawn rows."""

import random

from tests.samples import all_waggons

# The smallest unfaced part that there is, and one with three places for other ones within itself.
U = (2, 1)
WIDE = (3, 2, 1)
# Parts that are not unfaced, with one waggon, and one row onward with no waggons.
BACK = (-1,)
NONE = ()


def shifted(waggons, by):
    return tuple(waggon + by if waggon > 0 else waggon - by for waggon in waggons)


def beside(*rows):
    """The rows one behind the other: the frame of each one is the waggon between it and the next one."""
    whole = rows[0]
    for row in rows[1:]:
        many = len(whole) + 1
        whole = whole + (many,) + shifted(row, many)
    return whole


def within(outer, place, inner):
    """The outer row, with the inner one and its frame in the place of a waggon, facing as it does."""
    least = abs(outer[place])
    more = len(inner) + 1
    stretch = (least, *shifted(inner, least), least + more)
    if outer[place] < 0:
        stretch = tuple(-waggon for waggon in stretch[::-1])
    others = [waggon if abs(waggon) < least else shifted((waggon,), more)[0] for waggon in outer]
    return tuple(others[:place]) + stretch + tuple(others[place + 1:])


def filled(outer, *inner):
    """The outer row with a row within each of its waggons, from the last one to the first one; None for no row."""
    whole = outer
    for place in range(len(outer) - 1, -1, -1):
        if inner[place] is not None:
            whole = within(whole, place, inner[place])
    return whole


def from_other_end(waggons):
    """The row as it is seen from its other end."""
    more = len(waggons) + 1
    return tuple(more - waggon if waggon > 0 else -(more + waggon) for waggon in waggons[::-1])


def all_back(waggons):
    """The row within a waggon that faces back: where all of its waggons face on, they all face back."""
    return within(BACK, 0, waggons)


def long_branch(waggons=U):
    """An unfaced part with this row within itself."""
    return within(U, 0, waggons)


def drawn(seed, many, backs=True):
    """A drawn row of so many waggons, as tuple; the same seed draws the same row."""
    draw = random.Random(seed * 100 + many)
    numbers = list(range(1, many + 1))
    draw.shuffle(numbers)
    return tuple(-number if backs and draw.randrange(2) else number for number in numbers)


def drawn_mostly_onward(seed, many):
    """A row of so many waggons with a few short stretches moved, and few waggons that face back."""
    draw = random.Random(seed * 100 + many)
    waggons = list(range(1, many + 1))
    for _ in range(many // 4):
        at = draw.randrange(max(1, many - 2))
        waggons[at:at + 3] = waggons[at:at + 3][::-1]
        if draw.randrange(6) == 0:
            waggons[at] = -waggons[at]
    return tuple(waggons)


def drawn_nested(seed, most, pieces=(U, WIDE, (2, 1, -3), BACK, NONE, (2, 3, 1), (1, 3, 2), (-2, -1), (3, 1, 2))):
    """A row of at most so many waggons, put together from pieces beside and within each other."""
    draw = random.Random(seed)
    whole = draw.choice(pieces)
    while True:
        piece = draw.choice(pieces)
        if len(whole) + len(piece) + 1 > most:
            return whole
        way = draw.randrange(5)
        if way == 0:
            whole = beside(whole, piece)
        elif way == 1:
            whole = beside(piece, whole)
        elif way == 2 and piece:
            whole = within(piece, draw.randrange(len(piece)), whole)
        elif whole:
            whole = within(whole, draw.randrange(len(whole)), piece)


def many_kinds():
    """Rows of every length from 0 to 24, with and without waggons that face back, and composed ones."""
    found = []
    for many in range(25):
        found += [drawn(1, many), drawn(2, many, backs=False), drawn_mostly_onward(3, many)]
        found += [tuple(range(1, many + 1)), tuple(range(-many, 0)), tuple(range(many, 0, -1))]
    found += [drawn_nested(seed, most) for seed in range(60) for most in (9, 16, 23, 24)]
    found += [all_back(drawn_nested(seed, 22, (U, WIDE, NONE))) for seed in range(20)]
    return found


def few_waggons():
    """All rows of 0 to 4 waggons."""
    return [waggons for many in range(5) for waggons in all_waggons(many)]
