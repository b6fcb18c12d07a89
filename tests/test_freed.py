"""Promises 1 to 3 of the fourth stage: the whole row may be turned about for nothing."""

import unittest

from faceabout import errors, freed
from faceabout.fewest import distance, fewest
from faceabout.freed import free_distance, free_way, is_free_way
from faceabout.rows import Row, onward
from faceabout.turns import run, turned, turnings_of
from tests.looks import about, layers_freed
from tests.pairs import drawn_ways, led_rows, long_pairs
from tests.samples import HUGE, Agreeable, all_waggons, no_integers, plain, refused
from tests.yard import U, beside, drawn


def led(one, pair):
    """The row behind a pair as free_way tells it."""
    is_turned, turnings = pair
    return run(one.backward() if is_turned else one, turnings)


class Distances(unittest.TestCase):
    def test_all_pairs_of_up_to_three_waggons(self):
        for many in range(4):
            for other in all_waggons(many):
                met = layers_freed(other)
                for one in all_waggons(many):
                    told = free_distance(Row(one), Row(other))
                    self.assertEqual(told, met[one])
                    self.assertIs(type(told), int)

    def test_drawn_pairs_of_four_waggons(self):
        for seed in range(6):
            met = layers_freed(drawn(seed, 4))
            for one in all_waggons(4)[seed % 3::3]:
                self.assertEqual(free_distance(Row(one), Row(drawn(seed, 4))), met[one])

    def test_all_rows_of_five_waggons(self):
        met = layers_freed((1, 2, 3, 4, 5))
        for one in all_waggons(5):
            self.assertEqual(free_distance(Row(one), onward(5)), met[one])

    def test_rows_of_every_length(self):
        less = set()
        for one, other in long_pairs():
            told = free_distance(one, other)
            self.assertEqual(told, min(distance(one, other), distance(Row(about(one.waggons)), other)))
            self.assertEqual(free_distance(other, one), told)
            self.assertLessEqual(told, distance(one, other))
            less.add(distance(one, other) - told)
            self.assertEqual(free_distance(one.backward(), other), told)
            self.assertEqual(free_distance(one, other.backward()), told)
        # Turning the whole row about is one turning where it counts.
        self.assertEqual(less, {0, 1})

    def test_nothing_for_like_rows_and_for_such_turned_about(self):
        for many in range(25):
            for row in (Row(drawn(1, many)), onward(many), Row(drawn(2, many, backs=False))):
                self.assertEqual(free_distance(row, row), 0)
                self.assertEqual(free_distance(row, row.backward()), 0)
                self.assertEqual(free_distance(row.backward(), row), 0)

    def test_by_hand(self):
        self.assertEqual(free_distance(Row([]), Row([])), 0)
        self.assertEqual(free_distance(Row([-1]), Row([1])), 0)
        self.assertEqual(free_distance(Row([2, 1]), Row([1, 2])), 2)
        self.assertEqual(free_distance(Row([-1, -2]), Row([1, 2])), 2)
        self.assertEqual(free_distance(Row([-2, 1]), Row([1, 2])), 1)


class Ways(unittest.TestCase):
    def check(self, one, other, many):
        told = free_way(one, other)
        self.assertIs(type(told), tuple)
        self.assertEqual(len(told), 2)
        is_turned, turnings = told
        self.assertIs(is_turned, distance(one.backward(), other) < distance(one, other))
        self.assertTrue(plain(turnings))
        self.assertEqual(len(turnings), many)
        self.assertEqual(led(one, told), other)
        self.assertEqual(free_way(one, other), told)
        self.assertIs(is_free_way(one, other, told), True)

    def test_all_pairs_of_up_to_three_waggons(self):
        for many in range(4):
            for other in all_waggons(many):
                met = layers_freed(other)
                for one in all_waggons(many):
                    self.check(Row(one), Row(other), met[one])

    def test_drawn_pairs_of_four_waggons(self):
        for seed in range(4):
            met = layers_freed(drawn(seed, 4))
            for one in all_waggons(4)[seed::11]:
                self.check(Row(one), Row(drawn(seed, 4)), met[one])

    def test_pairs_of_up_to_ten_waggons(self):
        for one, other in led_rows()[::2]:
            self.check(one, other, free_distance(one, other))
            self.check(one.backward(), other, free_distance(one, other))

    def test_not_turned_if_both_are_as_few(self):
        self.assertEqual(free_way(Row([]), Row([])), (False, ()))
        # Two turnings and two behind the whole row turned about.
        self.assertEqual(distance(Row([-1, -2]), Row([1, 2])), 2)
        self.assertEqual(distance(Row([2, 1]), Row([1, 2])), 3)
        self.assertEqual(free_way(Row([-1, -2]), Row([1, 2]))[0], False)
        self.assertEqual(free_way(Row([2, 1]), Row([1, 2]))[0], True)
        even = 0
        for one in all_waggons(3):
            if distance(Row(one), onward(3)) == distance(Row(one).backward(), onward(3)):
                even += 1
                self.assertIs(free_way(Row(one), onward(3))[0], False)
        self.assertGreater(even, 0)

    def test_by_hand(self):
        self.assertEqual(free_way(Row([-1]), Row([1])), (True, ()))
        self.assertEqual(free_way(Row([1]), Row([1])), (False, ()))
        self.assertEqual(free_way(Row([-2, -1]), Row([1, 2])), (True, ()))
        self.assertEqual(free_way(onward(10), onward(10).backward()), (True, ()))
        self.assertEqual(free_way(Row([-1, 2, 3]), onward(3)), (False, ((0, 0),)))


class IsFreeWay(unittest.TestCase):
    def check(self, one, other, is_turned, turnings):
        self.assertEqual(led(one, (is_turned, turnings)), other)
        self.assertIs(is_free_way(one, other, (is_turned, turnings)), True)
        many = len(one)
        wrong = [
            [is_turned, turnings], (is_turned,), (turnings,), turnings, (is_turned, turnings, turnings), (),
            (is_turned, list(turnings)), (is_turned, (turnings,)), (is_turned, turnings + ((0, 0), (0, 0))),
            (is_turned, ((0, many - 1),) * 2 + turnings), (is_turned, turnings + ((0, many),)), None,
            (is_turned, None), (is_turned, str(turnings)), {is_turned: turnings}, (turnings, is_turned),
            (is_turned, turnings + (None,)), (is_turned, (is_turned, turnings)), (is_turned, Agreeable())]
        # Where a row is not like itself turned about, the other word leads elsewhere.
        wrong += [(not is_turned, turnings)] if many else []
        wrong += [(word, turnings) for word in (0, 1, int(is_turned), None, "True", "", (), [is_turned], Agreeable())]
        wrong += [(word, turnings) for word in no_integers() if word is not True and word is not False]
        for at, (first, last) in enumerate(turnings):
            others = [[first, last], (first,), (first, last, last), None, (last + 1, first), (first, HUGE), Agreeable()]
            others += [(first, Agreeable()), (-1, last), (first, many), (first, None), (str(first), last)]
            others += [(bool(first), last)] if first < 2 else []
            others += [turning for turning in turnings_of(many)[::5] if turning != (first, last)]
            wrong += [(is_turned, turnings[:at] + (each,) + turnings[at + 1:]) for each in others]
            wrong += [(is_turned, turnings[:at] + turnings[at + 1:])]
        for value in wrong:
            self.assertIs(is_free_way(one, other, value), False, value)

    def test_rows_of_every_length(self):
        for many in range(25):
            row = Row(drawn(1, many))
            self.check(row, row, False, ())
            if many:
                self.check(row.backward(), row, True, ())
            for one, other, way in drawn_ways(many) if many > 5 else []:
                if free_distance(one, other) == len(way):
                    self.check(one, other, False, way)
                    self.check(one.backward(), other, True, way)

    def test_short_rows(self):
        for many in range(1, 6):
            for seed in range(4):
                one, other = Row(drawn(seed, many)), Row(drawn(seed + 9, many))
                self.check(one, other, *free_way(one, other))

    def test_long_ways_are_met(self):
        found = [len(way) for many in (10, 11, 23, 24) for one, other, way in drawn_ways(many)
                 if free_distance(one, other) == len(way)]
        self.assertGreater(max(found), 5)

    def test_both_words_if_both_are_as_few(self):
        met = 0
        for waggons in all_waggons(3):
            one, other = Row(waggons), onward(3)
            if distance(one, other) == distance(one.backward(), other):
                met += 1
                self.assertIs(is_free_way(one, other, (False, fewest(one, other))), True)
                self.assertIs(is_free_way(one, other, (True, fewest(one.backward(), other))), True)
        self.assertGreater(met, 0)

    def test_longer_ones_are_none(self):
        one, other = Row([2, 1]), Row([1, 2])
        self.assertEqual(free_distance(one, other), 2)
        turnings = fewest(one, other)
        self.assertEqual(len(turnings), 3)
        self.assertIs(is_free_way(one, other, (False, turnings)), False)
        self.assertIs(is_free_way(one, other, (True, ((0, 0), (1, 1)))), True)
        self.assertIs(is_free_way(one, other, (True, ((1, 1), (0, 0)))), True)

    def test_values_of_every_kind(self):
        for many in (0, 1, 2, 10, 11, 24):
            one, other = onward(many), onward(many).backward()
            for value in no_integers() + [0, 1, HUGE, "True", (True, ()), (False, ()), (True, []), (1, ()), (True, ((),))]:
                expected = type(value) is tuple and value in [(True, ()), (False, ())][:2 if many == 0 else 1]
                expected = expected and type(value[0]) is bool
                self.assertIs(is_free_way(one, other, value), expected)


class Refused(unittest.TestCase):
    def test_other_length_first(self):
        calls = [free_distance, free_way]
        calls += [lambda one, other, value=value: is_free_way(one, other, value) for value in (None, (True, ()), (), 0)]
        for call in calls:
            for one, other in ((0, 1), (1, 0), (9, 10), (10, 11), (11, 10), (11, 12), (23, 24), (24, 0)):
                row, goal = Row(drawn(1, one)), Row(drawn(2, other))
                refused(self, errors.OtherLength, None, None, call, row, goal)
                self.assertEqual((row, goal), (Row(drawn(1, one)), Row(drawn(2, other))))

    def test_more_than_ten(self):
        for many in range(11, 25):
            row = Row(drawn(1, many))
            for other in (row, row.backward(), onward(many)):
                refused(self, errors.TooGreat, "most", 10, free_way, row, other)
                self.assertGreaterEqual(free_distance(row, other), 0)
                self.assertIs(is_free_way(row, other, None), False)
        self.assertEqual(len(free_way(Row(drawn(1, 10)), onward(10))), 2)

    def test_same(self):
        one, other, value = Row(beside(U, U)), Row([-1, 3, 2, 5, 4]), [True, [(0, 1)]]
        for _ in range(2):
            self.assertEqual(free_way(one, other), free_way(Row(list(beside(U, U))), other))
            self.assertEqual(free_distance(one, other), free_distance(turned(one, (0, 4)), other))
            self.assertIs(is_free_way(one, other, value), False)
            self.assertEqual((one.waggons, other.waggons), (beside(U, U), (-1, 3, 2, 5, 4)))
            self.assertEqual(value, [True, [(0, 1)]])

    def test_defined_in_this_file(self):
        for name in ("free_distance", "free_way", "is_free_way"):
            self.assertEqual(getattr(freed, name).__module__, "faceabout.freed")


if __name__ == "__main__":
    unittest.main()
