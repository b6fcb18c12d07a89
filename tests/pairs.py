"""Pairs of rows for which several tests ask."""

import random

from faceabout.fewest import distance
from faceabout.rows import Row, renamed
from faceabout.turns import turned, turnings_of
from tests.yard import NONE, U, all_back, beside, drawn, drawn_mostly_onward, drawn_nested, long_branch

LENGTHS = (0, 1, 2, 5, 9, 10, 11, 17, 23, 24)


def composed(most):
    """Rows of just so many waggons, in which parts lie beside and within each other."""
    found = []
    for seed in range(6):
        waggons = drawn_nested(seed, most)
        found.append(beside(waggons, *[NONE] * (most - len(waggons))))
    return found


def led_rows():
    """Pairs of rows of up to ten waggons."""
    pairs = []
    for many in range(11):
        row = tuple(range(1, many + 1))
        pairs += [(row, row), (row, row[::-1]), (tuple(range(-many, 0)), row), (row[::-1], tuple(range(-many, 0)))]
        pairs += [(drawn(5, many), drawn(6, many)), (drawn(7, many, backs=False), row)]
        pairs += [(drawn_mostly_onward(8, many), row), (row, drawn_mostly_onward(9, many))]
        pairs += [(drawn(seed, many), waggons) for seed, waggons in enumerate(composed(many)) if many > 3]
        pairs += [(waggons, row) for waggons in composed(many) if many > 3]
    for waggons in (beside(U, U, U), beside(U, long_branch()), long_branch(long_branch()), all_back(beside(U, U))):
        pairs.append((waggons, tuple(range(1, len(waggons) + 1))))
    return [(Row(one), Row(other)) for one, other in pairs]


def long_pairs():
    """Pairs of rows of up to 24 waggons, like ones and such that are near each other among them."""
    pairs = []
    for many in LENGTHS:
        pairs += [(drawn(1, many), drawn(2, many)), (drawn(3, many, backs=False), drawn(4, many, backs=False))]
        pairs += [(drawn(1, many), drawn(1, many)), (tuple(range(1, many + 1)), tuple(range(-many, 0)))]
        if many > 4:
            for waggons in composed(many):
                names = Row(drawn(5, many))
                pairs.append((waggons, tuple(range(1, many + 1))))
                pairs.append((renamed(Row(waggons), names).waggons, names.waggons))
    return [(Row(one), Row(other)) for one, other in pairs]


def led_by_steps(one, other):
    """A fewest row of turnings, of rows of any length: always the last turning that leads nearer by distance."""
    now, left, found = one, distance(one, other), []
    while left > 0:
        turning = next(
            turning for turning in turnings_of(len(one))[::-1] if distance(turned(now, turning), other) < left)
        found.append(turning)
        now, left = turned(now, turning), left - 1
    return tuple(found)


def drawn_ways(many):
    """Rows of so many waggons, as far apart as there are turnings between them, with these turnings."""
    draw = random.Random(many)
    found = []
    for most in (1, 2, 4, 7):
        row = goal = Row(drawn(most, many))
        way = []
        for _ in range(60):
            turning = draw.choice(turnings_of(many))
            if len(way) < most and distance(turned(row, turning), goal) == len(way) + 1:
                row = turned(row, turning)
                way.insert(0, turning)
        found.append((row, goal, tuple(way)))
    return found
