"""Promises 5 and 10 of the second stage: what unfaced parts cost."""

import unittest

from faceabout.closed import parts, unfaced
from faceabout.fewest import bound, cost, to_go
from faceabout.rings import many_rings
from faceabout.rows import Row, onward
from faceabout.turns import turned, turnings_of
from tests.looks import core_by_looking, cost_by_looking, rings_by_joining, unfaced_by_looking
from tests.samples import plain
from tests.yard import (
    BACK, NONE, U, WIDE, all_back, beside, drawn_nested, few_waggons, filled, from_other_end, long_branch, many_kinds)

LONG = long_branch()
# Long, too, with a part that is not unfaced between the unfaced ones, and with three of them.
LONG_OVER_BACK = long_branch(all_back(U))
LONGER = long_branch(LONG)
# Short: there is a part around the only unfaced one, which is not unfaced itself.
SHORT_IN_BACK = all_back(U)
FORK = filled(WIDE, U, U, U)
LONG_FORK = filled(WIDE, LONG, LONG, LONG)

# Rows in which each unfaced part has one ring: how many are unfaced, how many of them are at the
# ends of the core, and the cost, all told by hand.
UNFACED = [
    (U, 1, 1, 1),
    (LONG, 2, 2, 2),
    (LONGER, 3, 2, 2),
    (beside(U, U), 2, 2, 2),
    (beside(U, LONG), 3, 2, 2),
    (beside(LONG, LONG), 4, 2, 2),
    (beside(U, U, U), 3, 3, 3),
    (beside(U, U, LONG), 4, 3, 3),
    (beside(LONG, U, LONG), 5, 3, 3),
    (beside(LONG, LONG, U), 5, 3, 3),
    (beside(LONG, LONG, LONG), 6, 3, 4),
    (beside(LONG, LONGER, LONG), 7, 3, 4),
    (beside(U, U, U, U), 4, 4, 4),
    (beside(LONG, U, LONG, LONG), 7, 4, 4),
    (beside(LONG, LONG, LONG, LONG), 8, 4, 4),
    (beside(U, U, U, U, U), 5, 5, 5),
    (beside(LONG, U, LONG, U, U), 7, 5, 5),
    (beside(U, U, U, U, U, U, U), 7, 7, 7),
    (beside(U, U, U, U, U, U, U, U), 8, 8, 8),
    (filled(U, U, U), 3, 2, 2),
    (filled(U, LONG, U), 4, 2, 2),
    (filled(U, LONG, LONG), 5, 2, 2),
    # The part at the fork is unfaced itself, but no part of a branch.
    (beside(filled(U, U, U), U), 4, 3, 3),
    (beside(filled(U, LONG, LONG), U), 6, 3, 3),
    (beside(filled(U, U, LONG), LONG), 6, 3, 3),
    (beside(filled(U, LONG, LONG), LONG), 7, 3, 4),
    (beside(filled(U, U, LONG), U, U), 6, 4, 4),
    (long_branch(beside(U, U)), 3, 3, 3),
    (long_branch(beside(U, LONG)), 4, 3, 3),
    (long_branch(beside(LONG, LONG)), 5, 3, 3),
    (long_branch(beside(LONG, LONG, U)), 6, 4, 4),
    (long_branch(long_branch(beside(LONG, LONG))), 6, 3, 4),
    (long_branch(long_branch(beside(LONG, U))), 5, 3, 3),
]
# The same of rows that have other parts with other rings, too.
OTHERS = [
    (NONE, 0, 0, 0),
    (BACK, 0, 0, 0),
    (WIDE, 1, 1, 1),
    (SHORT_IN_BACK, 1, 1, 1),
    (LONG_OVER_BACK, 2, 2, 2),
    (FORK, 4, 3, 3),
    (LONG_FORK, 7, 3, 4),
    (beside(FORK, U), 5, 4, 4),
    (filled(WIDE, LONG, None, LONG), 5, 2, 2),
    (filled(WIDE, LONG, U, LONG), 6, 3, 3),
    (beside(SHORT_IN_BACK, SHORT_IN_BACK), 2, 2, 2),
    (beside(SHORT_IN_BACK, SHORT_IN_BACK, SHORT_IN_BACK), 3, 3, 3),
    (beside(LONG, SHORT_IN_BACK, LONG), 5, 3, 3),
    (beside(LONG_OVER_BACK, LONG_OVER_BACK, LONG_OVER_BACK), 6, 3, 4),
    (beside(LONG_OVER_BACK, LONG_OVER_BACK, U), 5, 3, 3),
    (all_back(beside(U, U)), 2, 2, 2),
    (all_back(beside(U, U, U)), 3, 3, 3),
    (all_back(beside(LONG, LONG, LONG)), 6, 3, 4),
    (filled((-1, -2, -3), U, LONG, LONG), 5, 3, 3),
    (filled((-1, -2, -3), LONG, LONG, LONG), 6, 3, 4),
    # Parts without unfaced ones within them are no branches.
    (beside(BACK, U, BACK, BACK), 1, 1, 1),
    (beside(LONG, BACK, LONG, NONE, LONG, BACK), 6, 3, 4),
    (filled(WIDE, U, BACK, NONE), 2, 2, 2),
    (beside(filled(WIDE, LONG, BACK, (-2, -1)), U), 4, 2, 2),
]


class ByHand(unittest.TestCase):
    def check(self, waggons, many, ends, costs):
        row = Row(waggons)
        self.assertEqual(len(unfaced(row)), many)
        self.assertEqual(unfaced(row), unfaced_by_looking(waggons))
        core = core_by_looking(waggons)
        self.assertEqual(len([node for node in core if len(core[node]) < 2]), ends)
        self.assertEqual(cost(row), costs)
        self.assertEqual(to_go(row), len(row) + 1 - len(rings_by_joining(waggons)) + costs)

    def test_rows_of_unfaced_parts(self):
        for waggons, many, ends, costs in UNFACED:
            with self.subTest(waggons=waggons):
                self.check(waggons, many, ends, costs)
                # Each such part has three joints in one ring.
                self.assertEqual(to_go(Row(waggons)), 2 * many + costs)

    def test_rows_with_other_parts(self):
        for waggons, many, ends, costs in OTHERS:
            with self.subTest(waggons=waggons):
                self.check(waggons, many, ends, costs)

    def test_seen_from_the_other_end(self):
        for waggons, many, ends, costs in UNFACED + OTHERS:
            with self.subTest(waggons=waggons):
                self.check(from_other_end(waggons), many, ends, costs)

    def test_inverse(self):
        for waggons, many, ends, costs in UNFACED + OTHERS:
            with self.subTest(waggons=waggons):
                self.check(Row(waggons).inverse().waggons, many, ends, costs)

    def test_behind_a_waggon_ahead_and_before_one_behind(self):
        for waggons, many, ends, costs in UNFACED + OTHERS:
            for other in (beside(NONE, waggons), beside(waggons, NONE)):
                with self.subTest(waggons=other):
                    if len(other) < 25:
                        self.check(other, many, ends, costs)
                        self.assertEqual(to_go(Row(other)), to_go(Row(waggons)))

    def test_behind_a_waggon_that_faces_back_and_before_one(self):
        for waggons, many, ends, costs in UNFACED + OTHERS:
            for other in (beside(BACK, waggons), beside(waggons, BACK), all_back(waggons)):
                with self.subTest(waggons=other):
                    if len(other) < 25:
                        self.check(other, many, ends, costs)
                        self.assertEqual(to_go(Row(other)), to_go(Row(waggons)) + 1)

    def test_where_the_unfaced_parts_are(self):
        self.assertEqual(unfaced(Row(beside(LONG, U))), ((0, 6), (1, 4), (6, 9)))
        self.assertEqual(unfaced(Row(beside(U, LONG))), ((0, 3), (3, 9), (4, 7)))
        self.assertEqual(unfaced(Row(LONGER)), ((0, 9), (1, 7), (2, 5)))
        self.assertEqual(unfaced(Row(FORK)), ((0, 13), (1, 4), (5, 8), (9, 12)))
        self.assertEqual(unfaced(Row(SHORT_IN_BACK)), ((1, 4),))
        self.assertEqual(unfaced(Row(LONG_OVER_BACK)), ((0, 8), (2, 5)))
        self.assertEqual(parts(Row(LONG_OVER_BACK)), ((0, 8), (1, 6), (2, 5)))

    def test_waggons_one_by_one(self):
        self.assertEqual(cost(Row([2, 1])), 1)
        self.assertEqual(to_go(Row([2, 1])), 3)
        self.assertEqual(cost(Row([3, 2, 1])), 1)
        self.assertEqual(to_go(row=Row([3, 2, 1])), 3)
        self.assertEqual(cost(row=Row([2, 1, 3, 5, 4])), 2)
        self.assertEqual(to_go(Row([2, 1, 3, 5, 4])), 6)
        self.assertEqual(cost(Row([2, 4, 3, 5, 1])), 2)
        fortress = [2, 4, 3, 5, 1, 6, 8, 10, 9, 11, 7, 12, 14, 16, 15, 17, 13]
        self.assertEqual(cost(Row(fortress)), 4)
        self.assertEqual(to_go(Row(fortress)), 16)


class OfAllKinds(unittest.TestCase):
    def test_as_the_tests_look_at_the_tree(self):
        for waggons in few_waggons() + many_kinds():
            told = cost(Row(waggons))
            self.assertEqual(told, cost_by_looking(waggons))
            self.assertTrue(plain(told))

    def test_all_costs_are_met(self):
        met = {cost(Row(waggons)) for waggons in many_kinds()}
        self.assertEqual(met, set(range(7)))

    def test_to_go_is_made_of_rings_and_cost(self):
        for waggons in few_waggons() + many_kinds():
            row = Row(waggons)
            told = to_go(row)
            self.assertTrue(plain(told))
            self.assertEqual(told, len(row) + 1 - many_rings(row) + cost(row))
            self.assertEqual(told - bound(row, onward(len(row))), cost(row))

    def test_nothing_without_unfaced_parts(self):
        for waggons in few_waggons() + many_kinds():
            row = Row(waggons)
            self.assertIs(cost(row) == 0, unfaced(row) == ())

    def test_onward_and_turned_about_as_a_whole(self):
        for many in range(25):
            self.assertEqual(to_go(onward(many)), 0)
            self.assertEqual(to_go(onward(many).backward()), 1 if many else 0)
            self.assertEqual(cost(onward(many).backward()), 0)

    def test_row_is_not_changed(self):
        row = Row(LONG_FORK)
        for told in (cost, to_go):
            self.assertEqual(told(row), told(row))
            self.assertEqual(told(row), told(Row(list(LONG_FORK))))
            self.assertEqual(row.waggons, LONG_FORK)


class Nearer(unittest.TestCase):
    """Facts 20 and 23 fail at some turning if a cost is told too great or too small."""

    def check(self, waggons):
        row = Row(waggons)
        left = to_go(row)
        behind = [to_go(turned(row, turning)) - left for turning in turnings_of(len(row))]
        self.assertEqual(min(behind), -1, waggons)
        self.assertLessEqual(max(behind), 1, waggons)

    def test_rows_told_by_hand(self):
        for waggons, _, _, _ in UNFACED + OTHERS:
            if waggons:
                self.check(waggons)

    def test_nested_rows(self):
        for seed in range(12):
            self.check(drawn_nested(seed, 24, (U, WIDE, NONE, (3, 1, 2))))


if __name__ == "__main__":
    unittest.main()
