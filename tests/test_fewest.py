"""Promises 6 to 9 and 11 of the second stage: the fewest turnings, and such turnings."""

import random
import unittest

from faceabout import errors, fewest
from faceabout.closed import unfaced
from faceabout.fewest import bound, distance, first_turns, to_go
from faceabout.rings import change, many_rings
from faceabout.rows import Row, onward, renamed, seen
from faceabout.turns import is_turning, run, turned, turnings_of
from tests.looks import all_turnings, layers, rings_by_joining, turned_waggons, walked
from tests.pairs import led_rows, long_pairs
from tests.samples import all_waggons, plain, refused
from tests.yard import BACK, NONE, U, WIDE, beside, drawn, drawn_mostly_onward, few_waggons, filled, many_kinds


class Layers(unittest.TestCase):
    def test_all_rows_of_up_to_five_waggons(self):
        for many in range(6):
            met = walked(many)
            self.assertEqual(len(met), len(all_waggons(many)))
            for waggons in all_waggons(many):
                self.assertEqual(to_go(Row(waggons)), met[waggons])

    def test_drawn_rows_of_six_waggons(self):
        met = walked(6)
        for seed in range(400):
            self.assertEqual(to_go(Row(drawn(seed, 6))), met[drawn(seed, 6)])
        for waggons in (drawn(seed, 6, backs=False) for seed in range(300)):
            self.assertEqual(to_go(Row(waggons)), met[waggons])

    def test_distance_of_all_pairs_of_up_to_three_waggons(self):
        for many in range(4):
            for other in all_waggons(many):
                met = layers(other)
                for one in all_waggons(many):
                    self.assertEqual(distance(Row(one), Row(other)), met[one])

    def test_distance_of_pairs_of_four_and_five_waggons(self):
        for many in (4, 5):
            for seed in range(4):
                other = drawn(seed, many)
                met = layers(other)
                for one in all_waggons(many)[::many]:
                    self.assertEqual(distance(Row(one), Row(other)), met[one])

    def test_by_name(self):
        self.assertEqual(to_go(row=Row([2, 1])), 3)
        self.assertEqual(distance(one=Row([2, 1]), other=Row([1, 2])), 3)
        self.assertEqual(bound(one=Row([2, 1]), other=Row([1, 2])), 2)
        self.assertEqual(len(fewest.fewest(one=Row([2, 1]), other=Row([1, 2]))), 3)
        self.assertEqual(first_turns(one=Row([2, 1]), other=Row([1, 2])), ((0, 0), (0, 1), (1, 1)))


class BehindATurning(unittest.TestCase):
    def check(self, row):
        left = to_go(row)
        behind = [to_go(turned(row, turning)) - left for turning in turnings_of(len(row))]
        self.assertLessEqual(set(behind), {-1, 0, 1})
        self.assertIs(-1 in behind, row != onward(len(row)))

    def test_all_rows_of_up_to_four_waggons(self):
        for waggons in few_waggons():
            self.check(Row(waggons))

    def test_longer_rows(self):
        for many in (7, 10, 11, 24):
            self.check(onward(many))
            self.check(onward(many).backward())
            self.check(Row(drawn(1, many)))
            self.check(Row(drawn(2, many, backs=False)))
            self.check(Row(drawn_mostly_onward(3, many)))


class FirstTurns(unittest.TestCase):
    def test_by_hand(self):
        self.assertEqual(first_turns(Row([]), Row([])), ())
        self.assertEqual(first_turns(Row([1]), Row([1])), ())
        self.assertEqual(first_turns(Row([-1]), Row([1])), ((0, 0),))
        self.assertEqual(first_turns(Row([-2, -1]), Row([1, 2])), ((0, 1),))
        self.assertEqual(first_turns(Row([-1, -2]), Row([1, 2])), ((0, 0), (1, 1)))

    def test_all_rows_of_up_to_four_waggons(self):
        for many in range(5):
            met = walked(many)
            for waggons in all_waggons(many):
                expected = tuple(
                    turning for turning in all_turnings(many)
                    if met[turned_waggons(waggons, turning)] < met[waggons])
                told = first_turns(Row(waggons), onward(many))
                self.assertEqual(told, expected)
                self.assertTrue(plain(told))

    def test_all_pairs_of_three_waggons(self):
        for other in all_waggons(3):
            met = layers(other)
            for one in all_waggons(3):
                expected = [turning for turning in all_turnings(3) if met[turned_waggons(one, turning)] < met[one]]
                self.assertEqual(first_turns(Row(one), Row(other)), tuple(expected))

    def test_drawn_pairs_of_five_waggons(self):
        for seed in range(3):
            other = drawn(seed, 5)
            met = layers(other)
            for one in all_waggons(5)[seed::97]:
                expected = [turning for turning in all_turnings(5) if met[turned_waggons(one, turning)] < met[one]]
                self.assertEqual(first_turns(Row(one), Row(other)), tuple(expected))

    def test_pairs_of_up_to_ten_waggons(self):
        for one, other in led_rows():
            left = distance(one, other)
            told = first_turns(one, other)
            self.assertTrue(plain(told))
            self.assertEqual(list(told), sorted(set(told)))
            self.assertIs(told == (), one == other)
            for turning in turnings_of(len(one)):
                self.assertIs(turning in told, distance(turned(one, turning), other) == left - 1)


class Fewest(unittest.TestCase):
    def check(self, one, other, many):
        told = fewest.fewest(one, other)
        self.assertTrue(plain(told))
        self.assertEqual(len(told), many)
        self.assertTrue(all(is_turning(one, turning) for turning in told))
        self.assertEqual(run(one, told), other)

    def test_all_rows_of_up_to_four_waggons(self):
        for many in range(5):
            for waggons, left in walked(many).items():
                self.check(Row(waggons), onward(many), left)

    def test_drawn_pairs_of_up_to_five_waggons(self):
        for many in range(6):
            for seed in range(3):
                other = drawn(seed, many)
                met = layers(other)
                for one in all_waggons(many)[seed::41]:
                    self.check(Row(one), Row(other), met[one])

    def test_pairs_of_up_to_ten_waggons(self):
        for one, other in led_rows():
            self.check(one, other, distance(one, other))
            told = fewest.fewest(one, other)
            self.assertIs(told == (), one == other)
            if told:
                self.assertIn(told[0], first_turns(one, other))

    def test_by_hand(self):
        self.assertEqual(fewest.fewest(Row([]), Row([])), ())
        self.assertEqual(fewest.fewest(Row([-1]), Row([1])), ((0, 0),))
        self.assertEqual(fewest.fewest(Row([1, -3, -2]), Row([1, 2, 3])), ((1, 2),))
        self.check(Row([2, 1, 3, 5, 4]), onward(5), 6)
        self.check(onward(10), onward(10).backward(), 1)
        self.check(Row(beside(U, WIDE, BACK, NONE)), onward(9), 7)
        self.check(Row(filled(U, U, U)), onward(8), 8)


class Refused(unittest.TestCase):
    def test_other_length(self):
        for call in (distance, bound, fewest.fewest, first_turns):
            for one, other in ((0, 1), (1, 0), (2, 5), (9, 10), (10, 9), (23, 24), (24, 23), (0, 24)):
                row, goal = onward(one), Row(drawn(1, other))
                refused(self, errors.OtherLength, None, None, call, row, goal)
                refused(self, errors.OtherLength, None, None, call, one=row, other=goal)
                self.assertEqual((row, goal), (onward(one), Row(drawn(1, other))))

    def test_more_than_ten(self):
        for call in (fewest.fewest, first_turns):
            for many in range(11, 25):
                row, goal = Row(drawn(1, many)), Row(drawn(2, many))
                refused(self, errors.TooGreat, "most", 10, call, row, goal)
                refused(self, errors.TooGreat, "most", 10, call, one=onward(many), other=onward(many))
                self.assertEqual((row, goal), (Row(drawn(1, many)), Row(drawn(2, many))))

    def test_other_length_before_more_than_ten(self):
        for call in (fewest.fewest, first_turns):
            for one, other in ((10, 11), (11, 10), (11, 12), (12, 11), (0, 24), (24, 0), (24, 23)):
                refused(self, errors.OtherLength, None, None, call, onward(one), onward(other))

    def test_more_than_ten_are_not_too_many_for_the_others(self):
        for many in range(11, 25):
            self.assertEqual(distance(onward(many), onward(many).backward()), 1)
            self.assertEqual(bound(onward(many), onward(many).backward()), 1)
            self.assertEqual(to_go(onward(many)), 0)


class Distances(unittest.TestCase):
    def test_of_the_row_that_is_seen(self):
        for one, other in long_pairs():
            row = seen(one, other)
            self.assertEqual(distance(one, other), to_go(row))
            self.assertEqual(bound(one, other), len(one) + 1 - len(rings_by_joining(row.waggons)))
            self.assertTrue(plain((distance(one, other), bound(one, other))))

    def test_both_ways_the_same(self):
        for one, other in long_pairs():
            self.assertEqual(distance(one, other), distance(other, one))
            self.assertEqual(bound(one, other), bound(other, one))

    def test_both_turned_about(self):
        for one, other in long_pairs():
            self.assertEqual(distance(one.backward(), other.backward()), distance(one, other))
            self.assertEqual(bound(one.backward(), other.backward()), bound(one, other))

    def test_both_renamed(self):
        for one, other in long_pairs():
            for names in (Row(drawn(6, len(one))), onward(len(one)).backward(), one):
                anew = renamed(one, names), renamed(other, names)
                self.assertEqual(distance(*anew), distance(one, other))
                self.assertEqual(bound(*anew), bound(one, other))

    def test_a_row_and_its_inverse(self):
        for waggons in few_waggons() + many_kinds():
            row = Row(waggons)
            self.assertEqual(to_go(row.inverse()), to_go(row))
            self.assertEqual(distance(onward(len(row)), row), to_go(row))
            self.assertEqual(distance(row, onward(len(row))), to_go(row))

    def test_no_shorter_by_a_third_row(self):
        for one, other in long_pairs():
            many = len(one)
            for third in (Row(drawn(7, many)), onward(many), one.backward(), one.inverse(), one):
                self.assertLessEqual(distance(one, other), distance(one, third) + distance(third, other))

    def test_a_turning_changes_it_by_one_at_most(self):
        draw = random.Random(11)
        for one, other in long_pairs():
            turnings = turnings_of(len(one))
            for turning in draw.sample(turnings, min(12, len(turnings))):
                for told in (distance, bound):
                    self.assertLessEqual(abs(told(turned(one, turning), other) - told(one, other)), 1)
                    self.assertLessEqual(abs(told(one, turned(other, turning)) - told(one, other)), 1)

    def test_nothing_for_like_rows_alone(self):
        for one, other in long_pairs():
            for told in (distance, bound):
                self.assertIs(told(one, other) == 0, one == other)
                self.assertGreaterEqual(told(one, other), 0)
                self.assertEqual(told(one, one), 0)

    def test_bound_is_no_greater(self):
        apart = 0
        for one, other in long_pairs():
            self.assertLessEqual(bound(one, other), distance(one, other))
            apart = max(apart, distance(one, other) - bound(one, other))
        self.assertGreater(apart, 3)

    def test_by_hand(self):
        self.assertEqual(bound(Row([]), Row([])), 0)
        self.assertEqual(distance(Row([]), Row([])), 0)
        self.assertEqual(bound(Row([2, 1]), Row([1, 2])), 2)
        self.assertEqual(distance(Row([2, 1]), Row([1, 2])), 3)
        self.assertEqual(distance(Row([3, 1, 2]), Row([3, -2, -1])), 1)
        self.assertEqual(distance(onward(24), Row(list(range(24, 0, -1)))), 25)
        self.assertEqual(bound(onward(23), Row(list(range(23, 0, -1)))), 22)


class WithoutUnfacedParts(unittest.TestCase):
    def check(self, waggons):
        row = Row(waggons)
        if unfaced(row) == ():
            self.assertEqual(to_go(row), len(row) + 1 - len(rings_by_joining(waggons)))
            good = [
                turning for turning in turnings_of(len(row))
                if change(row, turning) == 1 and unfaced(turned(row, turning)) == ()]
            self.assertIs(good != [], row != onward(len(row)))

    def test_all_rows_of_up_to_four_waggons(self):
        for waggons in few_waggons():
            self.check(waggons)

    def test_longer_rows(self):
        for waggons in many_kinds():
            if len(waggons) < 12 or len(waggons) > 23 and waggons[0] % 3 == 0:
                self.check(waggons)

    def test_down_to_the_row_onward(self):
        for many in (10, 17, 24):
            row = Row(drawn(3, many))
            self.assertEqual(unfaced(row), ())
            for left in range(to_go(row), 0, -1):
                self.assertEqual(many + 1 - many_rings(row), left)
                row = next(
                    turned(row, turning) for turning in turnings_of(many)
                    if change(row, turning) == 1 and unfaced(turned(row, turning)) == ())
            self.assertEqual(row, onward(many))


class Same(unittest.TestCase):
    def test_arguments_are_not_changed(self):
        one, other = Row([2, -3, 1, 5, 4]), Row([-1, 2, 4, 3, 5])
        for call in (distance, bound, fewest.fewest, first_turns):
            self.assertEqual(call(one, other), call(one, other))
            self.assertEqual(call(one, other), call(Row((2, -3, 1, 5, 4)), Row((-1, 2, 4, 3, 5))))
            self.assertEqual((one.waggons, other.waggons), ((2, -3, 1, 5, 4), (-1, 2, 4, 3, 5)))

    def test_defined_in_this_file(self):
        for name in ("cost", "to_go", "distance", "bound", "fewest", "first_turns"):
            self.assertEqual(getattr(fewest, name).__module__, "faceabout.fewest")


if __name__ == "__main__":
    unittest.main()
