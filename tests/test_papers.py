"""Promises 1 and 2 of the third stage: papers."""

import unittest

from faceabout import errors, papers
from faceabout.fewest import distance, fewest, first_turns
from faceabout.papers import is_paper, paper
from faceabout.rows import Row, onward
from faceabout.turns import is_turning, run, turned, turnings_of
from tests.looks import layers, ways_by_walking
from tests.pairs import drawn_ways, led_by_steps, led_rows, long_pairs
from tests.samples import HUGE, Agreeable, all_waggons, no_integers, no_turnings, plain, refused
from tests.yard import U, all_back, beside, drawn, drawn_mostly_onward, long_branch

WORDS = [
    "", "turn", "turns ", " turns", "Turns", "TURNS", "t", "turnsturns", "turning", b"turns", ["turns"], ("turns",),
    {"turns": 1}, None, True, False, 0, 1, list("turns"), tuple("turns"), Agreeable(), Row([1]), HUGE]


def spoilt(row, turnings):
    """Values that are no fewest row of turnings, though they are made of one."""
    found = [list(turnings), (turnings,), [turnings], turnings + ((0, 0), (0, 0)), None, str(turnings), dict(turnings)]
    for at, (first, last) in enumerate(turnings):
        ahead, behind = turnings[:at], turnings[at + 1:]
        found += [ahead + behind, ahead + ((first, last),) * 2 + behind, turnings[:at] + ((first, last),) * 3 + behind]
        others = [
            [first, last], (first, last, last), (first,), (last + 1, first), ((first, last),), None, str((first, last)),
            (str(first), last), (first, None), (first, Agreeable()), Agreeable(), (first, HUGE), (-HUGE, last),
            (first, len(row)), (-1, last), {first: last}, True, 0]
        others += [(bool(first), last)] if first < 2 else []
        others += [(first, bool(last))] if last < 2 else []
        found += [ahead + (other,) + behind for other in others]
        # Another turning there leads to another row.
        found += [
            ahead + (turning,) + behind for turning in turnings_of(len(row))[at::7] if turning != (first, last)]
    return found


class Papers(unittest.TestCase):
    def check(self, one, other, many):
        told = paper(one, other)
        self.assertIs(type(told), tuple)
        self.assertEqual(len(told), 2)
        word, turnings = told
        self.assertEqual(word, "turns")
        self.assertIs(type(word), str)
        self.assertTrue(plain(turnings))
        self.assertEqual(len(turnings), many)
        self.assertEqual(run(one, turnings), other)
        self.assertEqual(paper(one, other), told)
        self.assertIs(is_paper(one, other, told), True)

    def test_all_pairs_of_up_to_three_waggons(self):
        for many in range(4):
            for other in all_waggons(many):
                met = layers(other)
                for one in all_waggons(many):
                    self.check(Row(one), Row(other), met[one])

    def test_drawn_pairs_of_four_waggons(self):
        for seed in range(5):
            met = layers(drawn(seed, 4))
            for one in all_waggons(4)[seed::9]:
                self.check(Row(one), Row(drawn(seed, 4)), met[one])

    def test_pairs_of_up_to_ten_waggons(self):
        for one, other in led_rows():
            self.check(one, other, distance(one, other))

    def test_each_turning_is_among_the_first_ones_of_what_is_left(self):
        for one, other in led_rows():
            for turnings in (fewest(one, other), paper(one, other)[1]):
                now = one
                for turning in turnings:
                    self.assertTrue(is_turning(now, turning))
                    self.assertIn(turning, first_turns(now, other))
                    now = turned(now, turning)
                self.assertEqual(first_turns(now, other), ())
                self.assertEqual(now, other)

    def test_told_again_the_same(self):
        for one, other in led_rows()[::3]:
            for call in (fewest, first_turns, paper):
                self.assertEqual(call(one, other), call(Row(list(one.waggons)), Row(list(other.waggons))))

    def test_by_name(self):
        self.assertEqual(paper(one=Row([-1]), other=Row([1])), ("turns", ((0, 0),)))
        self.assertEqual(paper(other=Row([-1]), one=Row([-1])), ("turns", ()))

    def test_refused(self):
        for call in (fewest, first_turns, paper):
            for one, other in ((0, 1), (1, 0), (10, 11), (11, 10), (11, 12), (24, 23), (0, 24), (24, 0)):
                row, goal = onward(one), Row(drawn(1, other))
                refused(self, errors.OtherLength, None, None, call, row, goal)
                self.assertEqual((row, goal), (onward(one), Row(drawn(1, other))))
            for many in range(11, 25):
                refused(self, errors.TooGreat, "most", 10, call, onward(many), Row(drawn(1, many)))
                refused(self, errors.TooGreat, "most", 10, call, other=onward(many), one=onward(many))
            self.assertIsNotNone(call(onward(10), Row(drawn(1, 10))))


class IsPaper(unittest.TestCase):
    def test_all_fewest_rows_of_turnings(self):
        for many in range(4):
            for other in all_waggons(many)[::5]:
                met = layers(other)
                for one in all_waggons(many):
                    for way in ways_by_walking(one, met):
                        self.assertIs(is_paper(Row(one), Row(other), ("turns", way)), True)

    def test_longer_ones_are_none(self):
        for many in range(1, 11):
            one, other = Row(drawn(1, many)), Row(drawn(2, many))
            turnings = fewest(one, other)
            for turning in turnings_of(many):
                for longer in ((turning, turning) + turnings, turnings + (turning, turning)):
                    self.assertEqual(run(one, longer), other)
                    self.assertIs(is_paper(one, other, ("turns", longer)), False)

    def check(self, one, other, turnings):
        self.assertEqual(run(one, turnings), other)
        self.assertIs(is_paper(one, other, ("turns", turnings)), True)
        self.assertIs(is_paper(other, one, ("turns", turnings[::-1])), True)
        for other_one in (turned(one, (0, 0)), turned(other, (0, len(one) - 1))):
            self.assertIs(is_paper(other_one, other, ("turns", turnings)), other_one == one)
        self.check_spoilt(one, other, turnings)

    def check_spoilt(self, one, other, turnings):
        for value in spoilt(one, turnings):
            self.assertIs(is_paper(one, other, ("turns", value)), False, (one.waggons, value))
        for word in WORDS:
            self.assertIs(is_paper(one, other, (word, turnings)), False)
        for value in (
                ["turns", turnings], ("turns",), ("turns", turnings, turnings), (turnings,), turnings, (turnings, "turns"),
                {"turns": turnings}, {"turns", turnings}, (("turns", turnings),), [("turns", turnings)], "turns",
                ("turns", "turns"), ("turns", "turns", turnings)):
            self.assertIs(is_paper(one, other, value), False)

    def test_drawn_rows_of_every_length(self):
        for many in range(1, 25):
            for one, other, way in drawn_ways(many):
                self.assertEqual(len(way), distance(one, other))
                self.check(one, other, way)

    def test_rows_of_24_waggons_far_apart(self):
        unfaced_parts = beside(U, long_branch(), all_back(U), U, U)
        for waggons in (drawn(1, 24), drawn(2, 24, backs=False), drawn_mostly_onward(3, 24), unfaced_parts):
            one = Row(waggons)
            other = onward(len(one))
            turnings = led_by_steps(one, other)
            self.assertEqual(len(turnings), distance(one, other))
            self.assertIs(is_paper(one, other, ("turns", turnings)), True)
            self.assertIs(is_paper(other, one, ("turns", turnings[::-1])), True)
            self.assertIs(is_paper(one, other, ("turns", turnings[1:])), False)
            self.assertIs(is_paper(one, other, ("turns", turnings[:-1])), False)
            self.assertIs(is_paper(one, other, ("turns", ((0, 23), (0, 23)) + turnings)), False)
            self.assertIs(is_paper(one, other, ["turns", turnings]), False)

    def test_from_a_row_to_itself(self):
        for many in range(25):
            row = Row(drawn(4, many))
            self.assertIs(is_paper(row, row, ("turns", ())), True)
            for value in ([], None, "", {}, ((),), ((0, 0), (0, 0)), 0, False):
                self.assertIs(is_paper(row, row, ("turns", value)), False)
            self.check_spoilt(row, row, ())

    def test_values_of_every_kind(self):
        for many in (0, 1, 2, 10, 11, 24):
            one, other = onward(many), onward(many).backward()
            whole = ((0, many - 1),) if many else ()
            self.assertIs(is_paper(one, other, ("turns", whole)), True)
            for value in no_integers() + no_turnings(many) + [0, 1, HUGE, -HUGE, "turn", ()]:
                self.assertIs(is_paper(one, other, value), False)
                self.assertIs(is_paper(one, other, (value, whole)), False)
                if value != whole or isinstance(value, Agreeable):
                    self.assertIs(is_paper(one, other, ("turns", value)), False)
                if many and value not in whole or isinstance(value, Agreeable):
                    self.assertIs(is_paper(one, other, ("turns", (value,))), False)
                    self.assertIs(is_paper(one, other, ("turns", (value, (0, 0)))), False)

    def test_rows_of_unlike_lengths_have_none(self):
        for one, other in ((0, 1), (1, 0), (2, 3), (10, 11), (23, 24), (24, 23), (0, 24), (24, 0)):
            for turnings in ((), ((0, 0),), ((0, 0), (0, 0)), ((0, 1),), None):
                self.assertIs(is_paper(onward(one), onward(other), ("turns", turnings)), False)
            self.assertIs(is_paper(onward(one), onward(other), None), False)

    def test_values_are_not_changed(self):
        value = ("turns", [[0, 1], (1, 1)])
        self.assertIs(is_paper(Row([2, 1]), Row([1, 2]), value), False)
        self.assertEqual(value, ("turns", [[0, 1], (1, 1)]))
        one, other = Row([-1, 2]), Row([1, 2])
        self.assertIs(is_paper(one, other, ("turns", ((0, 0),))), True)
        self.assertIs(is_paper(one, other, ("turns", ((0, 0),))), True)
        self.assertEqual((one.waggons, other.waggons), ((-1, 2), (1, 2)))

    def test_by_name(self):
        one, other = Row([-1, 2]), Row([1, 2])
        self.assertIs(is_paper(value=("turns", ((0, 0),)), other=other, one=one), True)
        self.assertIs(is_paper(one, value=("turns", ((1, 1),)), other=other), False)

    def test_bound_is_not_enough(self):
        # Three turnings are needed though the rings alone ask for two.
        one, other = Row([2, 1]), Row([1, 2])
        self.assertIs(is_paper(one, other, ("turns", ((0, 0), (1, 1), (0, 1)))), True)
        self.assertIs(is_paper(one, other, ("turns", ((0, 0), (0, 1)))), False)


class Long(unittest.TestCase):
    def test_pairs_of_the_tests_are_as_far_apart_as_they_can_be(self):
        self.assertGreater(max(distance(one, other) for one, other in long_pairs()), 20)

    def test_defined_in_this_file(self):
        for made in (paper, is_paper):
            self.assertEqual(made.__module__, "faceabout.papers")
        self.assertEqual(papers.paper, paper)


if __name__ == "__main__":
    unittest.main()
