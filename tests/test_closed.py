"""Promises 3 and 4 of the second stage: parts, their own joints, unfaced parts and chains."""

import unittest

from faceabout import closed
from faceabout.closed import chains, is_settled, own_joints, parts, unfaced
from faceabout.rings import right_joints
from faceabout.rows import Row, onward
from tests.looks import (
    chains_by_looking, closed_by_looking, is_right, own_by_looking, parts_by_looking, unfaced_by_looking)
from tests.samples import no_parts, plain
from tests.yard import (
    BACK, NONE, U, WIDE, all_back, beside, drawn, few_waggons, filled, from_other_end, long_branch, many_kinds, within)


class Yard(unittest.TestCase):
    """The rows of the tests are what they are taken for."""

    def test_beside_and_within(self):
        self.assertEqual(beside(U, U), (2, 1, 3, 5, 4))
        self.assertEqual(beside(NONE, BACK, U), (1, -2, 3, 5, 4))
        self.assertEqual(within(U, 0, U), (2, 4, 3, 5, 1))
        self.assertEqual(within(U, 1, U), (5, 1, 3, 2, 4))
        self.assertEqual(within(BACK, 0, U), (-4, -2, -3, -1))
        self.assertEqual(filled(U, U, U), (5, 7, 6, 8, 1, 3, 2, 4))
        self.assertEqual(filled(U, None, NONE), (3, 1, 2))
        self.assertEqual(from_other_end((2, -3, 1)), (3, -1, 2))

    def test_kinds_have_all_lengths_and_both_ways_to_face(self):
        kinds = many_kinds()
        self.assertEqual({len(waggons) for waggons in kinds}, set(range(25)))
        for many in range(1, 25):
            some = [waggons for waggons in kinds if len(waggons) == many]
            self.assertTrue(any(min(waggons) > 0 for waggons in some))
            self.assertTrue(any(min(waggons) < 0 for waggons in some))
            self.assertTrue(any(max(waggons) < 0 for waggons in some))


class Parts(unittest.TestCase):
    def test_by_hand(self):
        self.assertEqual(parts(Row([])), ((0, 1),))
        self.assertEqual(parts(Row([1])), ((0, 1), (1, 2)))
        self.assertEqual(parts(Row([-1])), ((0, 2),))
        self.assertEqual(parts(Row([2, 1])), ((0, 3),))
        self.assertEqual(parts(row=Row([-2, -1])), ((0, 3), (1, 2)))
        self.assertEqual(parts(Row([-1, -2])), ((0, 3),))
        self.assertEqual(parts(Row([2, 1, 3, 5, 4])), ((0, 3), (3, 6)))
        self.assertEqual(parts(Row([2, 4, 3, 5, 1])), ((0, 6), (1, 4)))
        self.assertEqual(parts(Row([-4, -2, -3, -1])), ((0, 5), (1, 4)))

    def test_of_every_length(self):
        for waggons in few_waggons() + many_kinds():
            told = parts(Row(waggons))
            self.assertEqual(told, parts_by_looking(waggons))
            self.assertTrue(plain(told))

    def test_of_the_row_onward_and_of_that_turned_about(self):
        for many in range(25):
            self.assertEqual(parts(onward(many)), tuple((place, place + 1) for place in range(many + 1)))
        for many in range(1, 25):
            inner = tuple((place, place + 1) for place in range(1, many))
            self.assertEqual(parts(onward(many).backward()), ((0, many + 1),) + inner)

    def test_one_part_alone(self):
        for many in range(1, 25):
            waggons = [-number for number in range(1, many + 1)]
            self.assertEqual(parts(Row(waggons)), ((0, many + 1),))
            if many > 1:
                self.assertEqual(parts(Row([-number for number in waggons[::-1]])), ((0, many + 1),))

    def test_all_closed_stretches_are_parts_one_behind_the_other(self):
        for waggons in few_waggons() + many_kinds()[::5]:
            told = parts(Row(waggons))
            closed_ones = closed_by_looking(waggons)
            for first, last in closed_ones:
                place = first
                while place < last:
                    place = dict(told)[place]
                self.assertEqual(place, last)
            self.assertLessEqual(set(told), set(closed_ones))

    def test_within_each_other_or_one_place_in_common_at_most(self):
        for waggons in many_kinds()[::3]:
            told = parts(Row(waggons))
            for at, (first, last) in enumerate(told):
                for begin, end in told[at + 1:]:
                    self.assertTrue(first < begin)
                    self.assertTrue(end < last or begin >= last)


class OwnJoints(unittest.TestCase):
    def test_by_hand(self):
        row = Row([2, 4, 3, 5, 1])
        self.assertEqual(own_joints(row, (0, 6)), (0, 4, 5))
        self.assertEqual(own_joints(row, (1, 4)), (1, 2, 3))
        self.assertEqual(own_joints(row=Row([]), part=(0, 1)), (0,))
        self.assertEqual(own_joints(Row([-2, -1]), (0, 3)), (0, 2))
        self.assertEqual(own_joints(Row([-2, -1]), (1, 2)), (1,))
        self.assertEqual(own_joints(Row([3, 5, 4, 6, 7, 9, 8, 10, 2, 1]), (0, 11)), (0, 8, 9, 10))

    def test_of_every_length(self):
        for waggons in few_waggons() + many_kinds():
            row = Row(waggons)
            for part in parts(row):
                told = own_joints(row, part)
                self.assertEqual(told, own_by_looking(waggons, part))
                self.assertTrue(plain(told))

    def test_each_joint_is_some_parts_own(self):
        for waggons in many_kinds():
            row = Row(waggons)
            told = [joint for part in parts(row) for joint in own_joints(row, part)]
            self.assertEqual(sorted(told), list(range(len(row) + 1)))

    def test_of_a_value_that_is_no_part(self):
        rows = [(), (1,), (-1,), (1, 2), (2, 1), (2, 4, 3, 5, 1), beside(U, U), beside(NONE, BACK, U)]
        rows += [drawn(1, 10), beside(U, long_branch(), WIDE), tuple(range(1, 24)), tuple(range(-24, 0))]
        for waggons in rows:
            row = Row(waggons)
            for value in no_parts(row, parts(row)):
                told = own_joints(row, value)
                self.assertEqual(told, ())
                self.assertIs(type(told), tuple)
            self.assertEqual(own_joints(row=row, part=None), ())
            self.assertEqual(row.waggons, waggons)

    def test_of_a_closed_stretch_that_is_no_part(self):
        row = Row(beside(U, U, BACK))
        self.assertEqual(parts(row), ((0, 3), (3, 6), (6, 8)))
        self.assertIn((0, 6), closed_by_looking(row.waggons))
        for value in ((0, 6), (3, 8), (0, 8)):
            self.assertEqual(own_joints(row, value), ())

    def test_value_is_not_changed(self):
        value = [0, [1]]
        self.assertEqual(own_joints(Row([]), value), ())
        self.assertEqual(value, [0, [1]])


class Settled(unittest.TestCase):
    def test_by_hand(self):
        self.assertIs(is_settled(Row([]), (0, 1)), True)
        self.assertIs(is_settled(Row([1, -3, -2]), (0, 1)), True)
        self.assertIs(is_settled(Row([1, -3, -2]), (1, 4)), False)
        self.assertIs(is_settled(Row([1, -3, -2]), (2, 3)), True)
        self.assertIs(is_settled(row=Row([2, 1]), part=(0, 3)), False)

    def test_of_every_length(self):
        for waggons in few_waggons() + many_kinds():
            row = Row(waggons)
            for part in parts(row):
                own = own_by_looking(waggons, part)
                self.assertIs(is_settled(row, part), all(is_right(waggons, joint) for joint in own))

    def test_of_a_value_that_is_no_part(self):
        # It has no own joints, so that none of them is not right.
        for waggons in ((), (2, 1), beside(U, BACK)):
            row = Row(waggons)
            for value in no_parts(row, parts(row)):
                self.assertIs(is_settled(row, value), True)

    def test_settled_parts_are_the_right_joints(self):
        for waggons in many_kinds():
            row = Row(waggons)
            settled = tuple(part for part in parts(row) if is_settled(row, part))
            self.assertEqual(settled, tuple((joint, joint + 1) for joint in right_joints(row)))


class Unfaced(unittest.TestCase):
    def test_by_hand(self):
        self.assertEqual(unfaced(Row([])), ())
        self.assertEqual(unfaced(Row([-1])), ())
        self.assertEqual(unfaced(Row([2, 1])), ((0, 3),))
        self.assertEqual(unfaced(row=Row([2, 1, 3, 5, 4])), ((0, 3), (3, 6)))
        self.assertEqual(unfaced(Row([2, -1])), ())
        self.assertEqual(unfaced(Row([-1, -2])), ())
        self.assertEqual(unfaced(Row([-4, -2, -3, -1])), ((1, 4),))

    def test_within_another_one_and_behind_it(self):
        self.assertEqual(unfaced(Row(within(U, 0, U))), ((0, 6), (1, 4)))
        self.assertEqual(unfaced(Row(within(U, 1, U))), ((0, 6), (2, 5)))
        self.assertEqual(unfaced(Row(beside(long_branch(), U))), ((0, 6), (1, 4), (6, 9)))
        self.assertEqual(unfaced(Row(within((2, 1, -3), 0, U))), ((1, 4),))
        self.assertEqual(unfaced(Row(within(U, 0, BACK))), ((0, 5),))

    def test_waggons_of_another_part_that_face_back_do_not_count(self):
        # The outer part has waggons that face back between its own joints, but not at them.
        row = Row([2, -3, 4, 1])
        self.assertEqual(parts(row), ((0, 5), (1, 3)))
        self.assertEqual(unfaced(row), ((0, 5),))

    def test_all_of_its_waggons_face_back(self):
        row = Row(all_back(beside(U, WIDE)))
        self.assertEqual(row.backs(), len(row))
        self.assertEqual(unfaced(row), ((1, 5), (5, 8)))

    def test_of_every_length(self):
        for waggons in few_waggons() + many_kinds():
            told = unfaced(Row(waggons))
            self.assertEqual(told, unfaced_by_looking(waggons))
            self.assertTrue(plain(told))

    def test_none_in_the_row_onward_and_in_that_turned_about(self):
        for many in range(25):
            self.assertEqual(unfaced(onward(many)), ())
            self.assertEqual(unfaced(onward(many).backward()), ())

    def test_one_alone(self):
        for many in range(2, 25):
            self.assertEqual(unfaced(Row(list(range(many, 0, -1)))), ((0, many + 1),))
        self.assertEqual(unfaced(Row([1, 2, 4, 3, 5])), ((2, 5),))


class Chains(unittest.TestCase):
    def test_by_hand(self):
        self.assertEqual(chains(Row([])), (((0, 1),),))
        self.assertEqual(chains(Row([1])), (((0, 1), (1, 2)),))
        self.assertEqual(chains(row=Row([-1])), (((0, 2),),))
        self.assertEqual(chains(Row([-2, -1])), (((0, 3),), ((1, 2),)))
        self.assertEqual(chains(Row(within(U, 0, beside(U, U)))), (((0, 9),), ((1, 4), (4, 7))))
        self.assertEqual(
            chains(Row(beside(filled(U, U, BACK), NONE, U))),
            (((0, 8), (8, 9), (9, 12)), ((1, 4),), ((5, 7),)))

    def test_of_every_length(self):
        for waggons in few_waggons() + many_kinds():
            told = chains(Row(waggons))
            self.assertEqual(told, chains_by_looking(waggons))
            self.assertTrue(plain(told))

    def test_each_part_is_in_just_one(self):
        for waggons in many_kinds():
            row = Row(waggons)
            told = [part for chain in chains(row) for part in chain]
            self.assertEqual(tuple(sorted(told)), parts(row))

    def test_of_the_row_onward(self):
        for many in range(25):
            self.assertEqual(chains(onward(many)), (parts(onward(many)),))


class FromTheOtherEnd(unittest.TestCase):
    def test_parts_and_unfaced_parts(self):
        for waggons in few_waggons() + many_kinds()[::2]:
            row, other = Row(waggons), Row(from_other_end(waggons))
            behind = len(waggons) + 1
            for told in (parts, unfaced):
                mirrored = tuple(sorted((behind - last, behind - first) for first, last in told(row)))
                self.assertEqual(told(other), mirrored)


class Same(unittest.TestCase):
    def test_row_is_not_changed(self):
        waggons = beside(long_branch(), BACK, U)
        row = Row(waggons)
        for told in (parts, unfaced, chains):
            self.assertEqual(told(row), told(row))
            self.assertEqual(told(row), told(Row(list(waggons))))
        for part in parts(row):
            self.assertEqual(own_joints(row, part), own_joints(row, part))
            self.assertIs(is_settled(row, part), is_settled(row, part))
        self.assertEqual(row.waggons, waggons)

    def test_defined_in_this_file(self):
        for name in ("parts", "own_joints", "unfaced", "chains", "is_settled"):
            self.assertEqual(getattr(closed, name).__module__, "faceabout.closed")


if __name__ == "__main__":
    unittest.main()
