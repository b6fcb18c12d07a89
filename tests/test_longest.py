"""Promise 3 of the third stage: rows of 24 waggons, which all functions of the first half take but those that lead."""

import unittest

from faceabout import errors
from faceabout.closed import chains, is_settled, own_joints, parts, unfaced
from faceabout.fewest import bound, cost, distance, fewest, first_turns, to_go
from faceabout.papers import is_paper, paper
from faceabout.rings import change, joints, many_rings, right_joints, rings
from faceabout.rows import Row, onward, renamed, seen
from faceabout.turns import is_turning, run, turned, turning_between, turnings_of
from tests.looks import (
    chains_by_looking, cost_by_looking, is_right, joints_by_name, own_by_looking, parts_by_looking, rings_by_joining,
    turned_waggons, unfaced_by_looking)
from tests.samples import refused
from tests.yard import BACK, NONE, U, WIDE, all_back, beside, drawn, drawn_nested, filled, long_branch

# Rows of 24 waggons all of whose parts are unfaced, with how many parts there are and what they cost.
ALL_UNFACED = [
    (beside(U, U, U, U, U, U, U, WIDE), 8, 8),
    (beside(U, U, U, U, U, (3, 1, 4, 2), (2, 4, 1, 3)), 7, 7),
    (tuple(range(24, 0, -1)), 1, 1),
]


def longest_rows():
    """Rows of 24 waggons of all kinds."""
    found = [tuple(range(1, 25)), tuple(range(-24, 0)), tuple(range(24, 0, -1)), tuple(range(-1, -25, -1))]
    found += [drawn(seed, 24, backs=seed % 3 > 0) for seed in range(6)]
    found += [waggons for waggons, _, _ in ALL_UNFACED]
    found += [beside(all_back(beside(U, long_branch(), U)), filled(WIDE, U, BACK, NONE), NONE)]
    nested = [drawn_nested(seed, 24) for seed in range(12)]
    found += [beside(waggons, *[NONE] * (24 - len(waggons))) for waggons in nested]
    return found


class Rows(unittest.TestCase):
    def test_rows_of_the_tests(self):
        self.assertEqual({len(waggons) for waggons in longest_rows()}, {24})
        self.assertEqual({len(waggons) for waggons, _, _ in ALL_UNFACED}, {24})

    def test_rings_parts_and_cost(self):
        for waggons in longest_rows():
            row = Row(waggons)
            self.assertEqual(joints(row), joints_by_name(waggons))
            self.assertEqual(right_joints(row), tuple(joint for joint in range(25) if is_right(waggons, joint)))
            self.assertEqual(rings(row), rings_by_joining(waggons))
            self.assertEqual(many_rings(row), len(rings_by_joining(waggons)))
            self.assertEqual(parts(row), parts_by_looking(waggons))
            self.assertEqual(unfaced(row), unfaced_by_looking(waggons))
            self.assertEqual(chains(row), chains_by_looking(waggons))
            self.assertEqual(cost(row), cost_by_looking(waggons))
            self.assertEqual(to_go(row), 25 - len(rings_by_joining(waggons)) + cost_by_looking(waggons))
            for part in parts(row):
                self.assertEqual(own_joints(row, part), own_by_looking(waggons, part))
                settled = all(is_right(waggons, joint) for joint in own_by_looking(waggons, part))
                self.assertIs(is_settled(row, part), settled)

    def test_turnings(self):
        for waggons in longest_rows():
            row = Row(waggons)
            for turning in turnings_of(24)[::7] + ((0, 23), (23, 23), (22, 23)):
                self.assertIs(is_turning(row, turning), True)
                behind = turned(row, turning)
                self.assertEqual(behind.waggons, turned_waggons(waggons, turning))
                self.assertEqual(run(row, [turning, turning]), row)
                self.assertEqual(turning_between(row, behind), turning)
                self.assertEqual(
                    change(row, turning),
                    len(rings_by_joining(behind.waggons)) - len(rings_by_joining(waggons)))
            for turning in ((0, 24), (24, 24), (-1, 23), (23, 22)):
                self.assertIs(is_turning(row, turning), False)

    def test_distances(self):
        known = [Row(waggons) for waggons in longest_rows()]
        for one in known[::2]:
            for other in known[::3]:
                row = seen(one, other)
                self.assertEqual(renamed(row, other), one)
                self.assertEqual(bound(one, other), 25 - len(rings_by_joining(row.waggons)))
                self.assertEqual(distance(one, other), bound(one, other) + cost_by_looking(row.waggons))
                self.assertEqual(distance(other, one), distance(one, other))

    def test_turned_about_as_a_whole(self):
        row = onward(24).backward()
        self.assertEqual((to_go(row), cost(row), many_rings(row)), (1, 0, 24))
        self.assertEqual(distance(row, onward(24)), 1)
        self.assertEqual(parts(row), ((0, 25),) + tuple((place, place + 1) for place in range(1, 24)))
        self.assertEqual(own_joints(row, (0, 25)), (0, 24))
        self.assertIs(is_paper(row, onward(24), ("turns", ((0, 23),))), True)

    def test_the_other_way_about_without_turning(self):
        row = Row(list(range(24, 0, -1)))
        self.assertEqual(rings(row), (tuple(range(0, 25)),))
        self.assertEqual(parts(row), ((0, 25),))
        self.assertEqual(unfaced(row), ((0, 25),))
        self.assertEqual((cost(row), to_go(row)), (1, 25))
        turnings = tuple((place, place) for place in range(24)) + ((0, 23),)
        self.assertIs(is_paper(row, onward(24), ("turns", turnings)), True)

    def test_all_parts_unfaced(self):
        for waggons, many, costs in ALL_UNFACED:
            row = Row(waggons)
            self.assertEqual(unfaced(row), parts(row))
            self.assertEqual(len(parts(row)), many)
            self.assertEqual(cost(row), costs)
            self.assertEqual(to_go(row), 25 - len(rings_by_joining(waggons)) + costs)
        self.assertEqual(to_go(Row(ALL_UNFACED[0][0])), 25 - 9 + 8)

    def test_25_are_refused(self):
        for given in (list(range(1, 26)), tuple(range(-25, 0)), list(range(25, 0, -1)), [None] * 25):
            refused(self, errors.TooGreat, "most", 24, Row, given)
        refused(self, errors.BadNumber, "value", 25, onward, 25)
        refused(self, errors.BadNumber, "value", 25, turnings_of, 25)
        refused(self, errors.BadTurn, "place", 0, turned, onward(24), (0, 24))

    def test_no_fewest_rows_here(self):
        for waggons in longest_rows():
            for call in (fewest, first_turns, paper):
                refused(self, errors.TooGreat, "most", 10, call, Row(waggons), onward(24))
                refused(self, errors.TooGreat, "most", 10, call, Row(waggons), Row(waggons))


if __name__ == "__main__":
    unittest.main()
