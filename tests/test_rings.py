"""Promises 1 and 2 of the second stage: joints, rings, and how a turning changes them."""

import unittest

from faceabout import errors, rings
from faceabout.rings import change, joints, many_rings, right_joints
from faceabout.rows import Row, onward
from faceabout.turns import turned, turnings_of
from tests.looks import all_turnings, is_right, joints_by_name, rings_by_joining, turned_waggons
from tests.samples import all_waggons, no_turnings, plain, refused
from tests.yard import drawn, few_waggons, many_kinds


class Joints(unittest.TestCase):
    def test_by_hand(self):
        self.assertEqual(joints(Row([])), ((0, 1),))
        self.assertEqual(joints(Row([1])), ((0, 1), (2, 3)))
        self.assertEqual(joints(Row([-1])), ((0, 2), (1, 3)))
        self.assertEqual(joints(Row([2, -3, 1])), ((0, 3), (4, 6), (5, 1), (2, 7)))
        self.assertEqual(joints(row=Row([-2, -1])), ((0, 4), (3, 2), (1, 5)))

    def test_of_every_length(self):
        for waggons in few_waggons() + many_kinds():
            told = joints(Row(waggons))
            self.assertEqual(told, joints_by_name(waggons))
            self.assertTrue(plain(told))

    def test_each_end_is_tied_once(self):
        for waggons in many_kinds():
            ends = [end for pair in joints(Row(waggons)) for end in pair]
            self.assertEqual(sorted(ends), list(range(2 * len(waggons) + 2)))


class RightJoints(unittest.TestCase):
    def test_by_hand(self):
        self.assertEqual(right_joints(Row([])), (0,))
        self.assertEqual(right_joints(Row([-1])), ())
        self.assertEqual(right_joints(Row([1, -4, -3, 2, 5])), (0, 2, 5))
        self.assertEqual(right_joints(row=Row([2, 1])), ())
        self.assertEqual(right_joints(Row([-3, -2, -1])), (1, 2))
        self.assertEqual(right_joints(Row([-1, -2, -3])), ())

    def test_of_every_length(self):
        for waggons in few_waggons() + many_kinds():
            told = right_joints(Row(waggons))
            self.assertEqual(told, tuple(joint for joint in range(len(waggons) + 1) if is_right(waggons, joint)))
            self.assertTrue(plain(told))

    def test_all_and_none(self):
        for many in range(25):
            self.assertEqual(right_joints(onward(many)), tuple(range(many + 1)))
            self.assertEqual(right_joints(onward(many).backward()), tuple(range(1, many)) if many else (0,))
            if many > 1:
                self.assertEqual(right_joints(Row(list(range(many, 0, -1)))), ())


class Rings(unittest.TestCase):
    def test_by_hand(self):
        self.assertEqual(rings.rings(Row([])), ((0,),))
        self.assertEqual(rings.rings(Row([-1])), ((0, 1),))
        self.assertEqual(rings.rings(Row([2, 1])), ((0, 1, 2),))
        self.assertEqual(rings.rings(Row([3, 2, 1])), ((0, 2), (1, 3)))
        self.assertEqual(rings.rings(row=Row([1, -3, -2, 4])), ((0,), (1, 3), (2,), (4,)))

    def test_of_every_length(self):
        for waggons in few_waggons() + many_kinds():
            told = rings.rings(Row(waggons))
            self.assertEqual(told, rings_by_joining(waggons))
            self.assertTrue(plain(told))
            self.assertEqual(many_rings(Row(waggons)), len(told))
            self.assertIs(type(many_rings(Row(waggons))), int)

    def test_each_joint_is_in_just_one(self):
        for waggons in many_kinds():
            told = [joint for ring in rings.rings(Row(waggons)) for joint in ring]
            self.assertEqual(sorted(told), list(range(len(waggons) + 1)))

    def test_rings_of_one_joint_are_the_right_joints(self):
        for waggons in few_waggons() + many_kinds():
            row = Row(waggons)
            alone = tuple(ring[0] for ring in rings.rings(row) if len(ring) == 1)
            self.assertEqual(alone, right_joints(row))

    def test_one_more_than_waggons_just_if_onward(self):
        for waggons in few_waggons() + many_kinds():
            row = Row(waggons)
            self.assertIs(many_rings(row) == len(row) + 1, row == onward(len(row)))
            self.assertLessEqual(many_rings(row), len(row) + 1)
        self.assertEqual(many_rings(row=onward(24)), 25)
        self.assertEqual(many_rings(onward(0)), 1)

    def test_inverse_has_as_many(self):
        for waggons in few_waggons() + many_kinds():
            row = Row(waggons)
            self.assertEqual(many_rings(row.inverse()), many_rings(row))

    def test_row_is_not_changed(self):
        row = Row([2, -3, 1])
        for told in (joints, right_joints, rings.rings, many_rings):
            self.assertEqual(told(row), told(row))
            self.assertEqual(told(row), told(Row((2, -3, 1))))
            self.assertEqual(row.waggons, (2, -3, 1))


class Change(unittest.TestCase):
    def test_by_hand(self):
        self.assertEqual(change(Row([-1]), (0, 0)), 1)
        self.assertEqual(change(Row([1]), (0, 0)), -1)
        self.assertEqual(change(Row([2, 1]), (0, 0)), 0)
        self.assertEqual(change(row=Row([1, -3, -2]), turning=(1, 2)), 1)

    def test_over_all_turnings(self):
        some = [waggons for waggons in many_kinds() if len(waggons) < 9 or len(waggons) > 22][::9]
        told_at_all = set()
        for waggons in few_waggons() + some:
            before = len(rings_by_joining(waggons))
            for turning in all_turnings(len(waggons)):
                told = change(Row(waggons), turning)
                behind = turned_waggons(waggons, turning)
                self.assertIs(type(told), int)
                self.assertEqual(told, len(rings_by_joining(behind)) - before)
                self.assertEqual(change(Row(behind), turning), -told)
                told_at_all.add(told)
        self.assertEqual(told_at_all, {-1, 0, 1})

    def test_over_all_turnings_of_the_longest_rows(self):
        for many in (10, 11, 23, 24):
            for waggons in (drawn(7, many), drawn(8, many, backs=False), tuple(range(1, many + 1))):
                row = Row(waggons)
                for turning in turnings_of(many):
                    told = change(row, turning)
                    self.assertIn(told, (-1, 0, 1))
                    self.assertEqual(many_rings(row) + told, many_rings(turned(row, turning)))

    def test_refused(self):
        for many in (0, 1, 2, 3, 10, 11, 23, 24):
            row = Row(drawn(4, many))
            for value in no_turnings(many):
                refused(self, errors.BadTurn, "place", 0, change, row, value)
                refused(self, errors.BadTurn, "place", 0, change, row=row, turning=value)
            self.assertEqual(row.waggons, drawn(4, many))

    def test_arguments_are_not_changed(self):
        row, value = Row([2, -3, 1]), [[0, 1]]
        self.assertEqual(change(row, (0, 1)), change(row, (0, 1)))
        refused(self, errors.BadTurn, "place", 0, change, row, value)
        self.assertEqual((row.waggons, value), ((2, -3, 1), [[0, 1]]))


class Places(unittest.TestCase):
    def test_defined_in_this_file(self):
        for made in (joints, right_joints, rings.rings, many_rings, change):
            self.assertEqual(made.__module__, "faceabout.rings")


class Looks(unittest.TestCase):
    def test_the_tests_own_joining_makes_as_many_rings_as_the_document_says(self):
        for many in range(4):
            for waggons in all_waggons(many):
                full = len(rings_by_joining(waggons)) == many + 1
                self.assertIs(full, waggons == tuple(range(1, many + 1)))


if __name__ == "__main__":
    unittest.main()
