"""Promises 4 and 5: turnings."""

import unittest

from faceabout import errors
from faceabout.rows import Row, onward
from faceabout.turns import is_turning, run, turned, turning_between, turnings_of
from tests.samples import (
    HUGE, all_waggons, integers_outside, long_waggons, no_integers, no_turnings, refused, small_rows)

LENGTHS = (0, 1, 2, 3, 12, 23, 24)


def turned_slowly(waggons, first, last):
    """Point 11, waggon by waggon, on tuples."""
    behind = list(waggons)
    for place in range(first, last + 1):
        behind[first + last - place] = -waggons[place]
    return tuple(behind)


class IsTurning(unittest.TestCase):
    def test_all_pairs_of_integers(self):
        for many in LENGTHS:
            row = onward(many).backward()
            for first in range(-2, many + 3):
                for last in range(-2, many + 3):
                    self.assertIs(is_turning(row, (first, last)), 0 <= first <= last < many)

    def test_by_name(self):
        self.assertIs(is_turning(row=Row([1]), value=(0, 0)), True)
        self.assertIs(is_turning(row=Row([1]), value=(0, 1)), False)

    def test_values_of_every_kind(self):
        for many in LENGTHS:
            for value in no_turnings(many):
                self.assertIs(is_turning(onward(many), value), False)

    def test_value_is_not_changed(self):
        value = [0, [1]]
        self.assertIs(is_turning(onward(3), value), False)
        self.assertEqual(value, [0, [1]])


class Turned(unittest.TestCase):
    def test_turned(self):
        self.assertEqual(turned(Row([1]), (0, 0)), Row([-1]))
        self.assertEqual(turned(Row([3, -1, 2, 4]), (0, 2)), Row([-2, 1, -3, 4]))
        self.assertEqual(turned(Row([3, -1, 2, 4]), (1, 1)), Row([3, 1, 2, 4]))
        self.assertEqual(turned(Row([3, -1, 2, 4]), (2, 3)), Row([3, -1, -4, -2]))
        self.assertEqual(turned(row=Row([1, 2]), turning=(0, 1)), Row([-2, -1]))

    def test_every_turning(self):
        for row in small_rows() + [Row(long_waggons(many)) for many in (4, 23, 24)]:
            for first, last in turnings_of(len(row)):
                behind = turned(row, (first, last))
                self.assertEqual(behind.waggons, turned_slowly(row.waggons, first, last))

    def test_twice_gives_the_row_again(self):
        for row in small_rows() + [Row(long_waggons(24))]:
            for turning in turnings_of(len(row)):
                self.assertEqual(turned(turned(row, turning), turning), row)

    def test_whole_row(self):
        for row in small_rows()[1:]:
            self.assertEqual(turned(row, (0, len(row) - 1)), row.backward())

    def test_row_is_not_changed(self):
        row = Row([3, -1, 2])
        self.assertEqual(turned(row, (0, 1)), turned(row, (0, 1)))
        self.assertEqual(row.waggons, (3, -1, 2))

    def test_refused(self):
        for many in LENGTHS:
            row = onward(many)
            for value in no_turnings(many):
                refused(self, errors.BadTurn, "place", 0, turned, row, value)
            refused(self, errors.BadTurn, "place", 0, turned, row=row, turning=None)
            self.assertEqual(row, onward(many))


class TurningsOf(unittest.TestCase):
    def test_every_length(self):
        for many in range(25):
            told = turnings_of(many)
            self.assertIs(type(told), tuple)
            self.assertEqual(len(told), many * (many + 1) // 2)
            self.assertEqual(list(told), sorted(set(told)))
            self.assertTrue(all(is_turning(onward(many), turning) for turning in told))
            self.assertEqual(turnings_of(many=many), told)

    def test_three(self):
        self.assertEqual(turnings_of(0), ())
        self.assertEqual(turnings_of(1), ((0, 0),))
        self.assertEqual(turnings_of(3), ((0, 0), (0, 1), (0, 2), (1, 1), (1, 2), (2, 2)))

    def test_refused(self):
        for value in no_integers() + integers_outside(0, 24):
            refused(self, errors.BadNumber, "value", value, turnings_of, value)
            refused(self, errors.BadNumber, "value", value, turnings_of, many=value)


class Run(unittest.TestCase):
    def test_run(self):
        row = Row([3, -1, 2])
        self.assertEqual(run(row, [(0, 1), (1, 2)]), Row([1, -2, 3]))
        self.assertEqual(run(row, ((0, 1), (1, 2), (1, 1))), onward(3))
        self.assertEqual(run(row=row, turnings=[(1, 1)]), Row([3, 1, 2]))

    def test_no_turnings(self):
        for many in LENGTHS:
            self.assertEqual(run(onward(many), []), onward(many))
            self.assertEqual(run(onward(many), ()), onward(many))

    def test_one_after_another(self):
        row = Row(long_waggons(24))
        turnings = [(0, 23), (3, 3), (5, 20), (0, 0), (23, 23), (1, 22)]
        now = row
        for turning in turnings:
            now = turned(now, turning)
        self.assertEqual(run(row, turnings), now)
        self.assertEqual(run(row, tuple(turnings)), now)

    def test_the_other_way_about_leads_back(self):
        for row in small_rows() + [Row(long_waggons(24))]:
            turnings = list(turnings_of(len(row)))
            behind = run(row, turnings)
            self.assertEqual(run(behind, turnings[::-1]), row)

    def test_more_turnings_than_waggons(self):
        self.assertEqual(run(Row([1]), [(0, 0)] * 999), Row([-1]))

    def test_no_list_and_no_tuple(self):
        for value in no_integers() + [0, 1, HUGE, "01", {(0, 0): 1}, {(0, 0)}, onward(2)]:
            if not isinstance(value, (list, tuple)):
                refused(self, errors.BadTurn, "place", None, run, onward(3), value)
                refused(self, errors.BadTurn, "place", None, run, row=onward(0), turnings=value)

    def test_first_item_that_is_no_turning(self):
        for many in LENGTHS[1:]:
            for value in no_turnings(many):
                refused(self, errors.BadTurn, "place", 0, run, onward(many), [value])
                refused(self, errors.BadTurn, "place", 0, run, onward(many), (value, (0, 0)))
                refused(self, errors.BadTurn, "place", 2, run, onward(many), ((0, 0), (0, 0), value))
                refused(self, errors.BadTurn, "place", 1, run, onward(many), [(0, 0), value, value, None])
        refused(self, errors.BadTurn, "place", 0, run, onward(0), [(0, 0)])
        refused(self, errors.BadTurn, "place", 0, run, onward(2), (0, 1))

    def test_arguments_are_not_changed(self):
        row, turnings = Row([3, -1, 2]), [(0, 1), (1, 2)]
        self.assertEqual(run(row, turnings), run(row, turnings))
        refused(self, errors.BadTurn, "place", 2, run, row, turnings + [(3, 3)])
        self.assertEqual((row.waggons, turnings), ((3, -1, 2), [(0, 1), (1, 2)]))


class TurningBetween(unittest.TestCase):
    def test_every_turning_is_found(self):
        for row in small_rows() + [Row(long_waggons(many)) for many in (5, 23, 24)]:
            for turning in turnings_of(len(row)):
                self.assertEqual(turning_between(row, turned(row, turning)), turning)
                self.assertIs(type(turning_between(row, turned(row, turning))), tuple)

    def test_none_from_a_row_to_itself(self):
        for row in small_rows() + [Row(long_waggons(24))]:
            self.assertIsNone(turning_between(row, Row(list(row.waggons))))

    def test_none_if_no_turning_leads_there(self):
        for many in range(4):
            for waggons in all_waggons(many):
                for others in all_waggons(many):
                    leading = [
                        turning for turning in turnings_of(many) if turned_slowly(waggons, *turning) == others]
                    told = turning_between(Row(waggons), Row(others))
                    self.assertEqual(told, leading[0] if leading else None)

    def test_longer_rows(self):
        self.assertIsNone(turning_between(onward(4), Row([-1, 2, 3, -4])))
        self.assertIsNone(turning_between(onward(24), Row([-2, -1] + list(range(3, 25))).backward()))
        self.assertEqual(turning_between(onward(24), onward(24).backward()), (0, 23))

    def test_by_name(self):
        self.assertEqual(turning_between(one=Row([1, 2]), other=Row([1, -2])), (1, 1))

    def test_other_length(self):
        for one, other in ((0, 1), (1, 0), (23, 24), (24, 23)):
            refused(self, errors.OtherLength, None, None, turning_between, onward(one), onward(other))
        refused(self, errors.OtherLength, None, None, turning_between, one=onward(1), other=onward(2))

    def test_arguments_are_not_changed(self):
        one, other = Row([1, 2, 3]), Row([1, -3, -2])
        self.assertEqual(turning_between(one, other), turning_between(one, other))
        self.assertEqual((one.waggons, other.waggons), ((1, 2, 3), (1, -3, -2)))


class Places(unittest.TestCase):
    def test_defined_in_this_file(self):
        for made in (is_turning, turned, run, turnings_of, turning_between):
            self.assertEqual(made.__module__, "faceabout.turns")


if __name__ == "__main__":
    unittest.main()
