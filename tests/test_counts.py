"""Promises 5 and 6 of the third stage: all rows of few waggons, counted."""

import types
import unittest

from faceabout import counts, errors
from faceabout.counts import MOST_COUNTED, farthest, farthest_rows, ring_spread, rows_of, spread
from faceabout.fewest import to_go
from faceabout.rings import many_rings
from faceabout.rows import Row
from tests.looks import rings_by_joining, walked
from tests.samples import all_waggons, integers_outside, no_integers, refused

ROWS = [1, 2, 8, 48, 384, 3840]


def tallied(numbers):
    return [(number, numbers.count(number)) for number in sorted(set(numbers))]


def first_of(many):
    return next(rows_of(many))


def wrong_numbers():
    return no_integers() + integers_outside(0, 5) + [6, 7, 24, 25, -1]


class RowsOf(unittest.TestCase):
    def test_most_counted(self):
        self.assertEqual(MOST_COUNTED, 5)
        self.assertIs(type(MOST_COUNTED), int)

    def test_all_rows_ascending_each_once(self):
        for many in range(6):
            told = list(rows_of(many))
            self.assertTrue(all(type(row) is Row for row in told))
            waggons = [row.waggons for row in told]
            self.assertEqual(waggons, sorted(all_waggons(many)))
            self.assertEqual(len(waggons), ROWS[many])
            self.assertEqual(len(set(waggons)), ROWS[many])

    def test_by_hand(self):
        self.assertEqual([row.waggons for row in rows_of(0)], [()])
        self.assertEqual([row.waggons for row in rows_of(1)], [(-1,), (1,)])
        self.assertEqual(
            [row.waggons for row in rows_of(2)],
            [(-2, -1), (-2, 1), (-1, -2), (-1, 2), (1, -2), (1, 2), (2, -1), (2, 1)])
        self.assertEqual(first_of(5), Row([-5, -4, -3, -2, -1]))

    def test_generator(self):
        told = rows_of(2)
        self.assertIsInstance(told, types.GeneratorType)
        self.assertEqual(next(told), Row([-2, -1]))
        self.assertEqual(next(told), Row([-2, 1]))
        self.assertEqual(len(list(told)), 6)
        self.assertEqual(list(told), [])

    def test_asked_again_the_same(self):
        for many in range(6):
            self.assertEqual(list(rows_of(many)), list(rows_of(many=many)))
        one, other = rows_of(3), rows_of(3)
        next(one)
        next(one)
        self.assertEqual(next(other), Row([-3, -2, -1]))
        self.assertEqual(next(one), Row([-3, -1, -2]))

    def test_refused_when_the_first_one_is_asked_for(self):
        for value in wrong_numbers():
            told = rows_of(value)
            self.assertIsInstance(told, types.GeneratorType)
            refused(self, errors.BadNumber, "value", value, next, told)
            self.assertEqual(list(told), [])
            refused(self, errors.BadNumber, "value", value, list, rows_of(many=value))

    def test_not_refused_before(self):
        for value in wrong_numbers():
            rows_of(value).close()


class Spread(unittest.TestCase):
    def check(self, told, numbers):
        self.assertIs(type(told), dict)
        self.assertEqual(list(told.items()), tallied(numbers))
        self.assertTrue(all(type(number) is int for pair in told.items() for number in pair))

    def test_by_a_walk_of_the_tests_own(self):
        for many in range(6):
            self.check(spread(many), list(walked(many).values()))
            self.assertEqual(sum(spread(many).values()), ROWS[many])

    def test_rings(self):
        for many in range(6):
            self.check(ring_spread(many), [len(rings_by_joining(waggons)) for waggons in all_waggons(many)])
            self.assertEqual(sum(ring_spread(many).values()), ROWS[many])

    def test_as_the_other_functions_tell(self):
        for many in range(6):
            known = [Row(waggons) for waggons in all_waggons(many)]
            self.check(spread(many), [to_go(row) for row in known])
            self.check(ring_spread(many), [many_rings(row) for row in known])

    def test_by_hand(self):
        self.assertEqual(spread(0), {0: 1})
        self.assertEqual(spread(1), {0: 1, 1: 1})
        self.assertEqual(list(spread(2).items()), [(0, 1), (1, 3), (2, 3), (3, 1)])
        self.assertEqual(list(spread(5).items()), [(0, 1), (1, 15), (2, 120), (3, 700), (4, 1554), (5, 1447), (6, 3)])
        self.assertEqual(ring_spread(0), {1: 1})
        self.assertEqual(list(ring_spread(1).items()), [(1, 1), (2, 1)])
        self.assertEqual(ring_spread(5)[6], 1)
        self.assertEqual(max(ring_spread(4)), 5)

    def test_new_dicts(self):
        for call in (spread, ring_spread):
            told = call(3)
            kept = dict(told)
            told.clear()
            told[7] = 7
            self.assertEqual(call(3), kept)
            self.assertIsNot(call(3), call(3))

    def test_refused(self):
        for call in (spread, ring_spread, farthest, farthest_rows):
            for value in wrong_numbers():
                refused(self, errors.BadNumber, "value", value, call, value)
                refused(self, errors.BadNumber, "value", value, call, many=value)

    def test_by_name(self):
        self.assertEqual(spread(many=2), spread(2))
        self.assertEqual(ring_spread(many=2), ring_spread(2))
        self.assertEqual(farthest(many=2), 3)
        self.assertEqual(farthest_rows(many=2), (Row([2, 1]),))


class Farthest(unittest.TestCase):
    def test_farthest(self):
        for many in range(6):
            most = max(walked(many).values())
            self.assertEqual(farthest(many), most)
            self.assertIs(type(farthest(many)), int)
            self.assertEqual(farthest(many), max(spread(many)))

    def test_farthest_rows(self):
        for many in range(6):
            met = walked(many)
            most = max(met.values())
            told = farthest_rows(many)
            self.assertIs(type(told), tuple)
            self.assertTrue(all(type(row) is Row for row in told))
            self.assertEqual([row.waggons for row in told], sorted(row for row in met if met[row] == most))
            self.assertEqual(len(told), spread(many)[farthest(many)])
            self.assertEqual(farthest_rows(many), told)

    def test_by_hand(self):
        self.assertEqual(farthest_rows(0), (Row([]),))
        self.assertEqual(farthest_rows(1), (Row([-1]),))
        self.assertEqual(farthest_rows(2), (Row([2, 1]),))
        self.assertEqual([farthest(many) for many in range(6)], [0, 1, 3, 3, 5, 6])


class Places(unittest.TestCase):
    def test_defined_in_this_file(self):
        for name in ("rows_of", "spread", "ring_spread", "farthest", "farthest_rows"):
            self.assertEqual(getattr(counts, name).__module__, "faceabout.counts")


if __name__ == "__main__":
    unittest.main()
