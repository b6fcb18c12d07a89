"""Promises 7 to 10 of the third stage: fewest rows of turnings, counted, told and numbered."""

import types
import unittest
from itertools import islice

from faceabout import errors
from faceabout import ways as module
from faceabout.fewest import distance, fewest, first_turns
from faceabout.rows import Row, onward, renamed
from faceabout.turns import run, turned, turnings_of
from faceabout.ways import MOST_WAYS, count_ways, way_at, way_number, ways
from tests.looks import counts_by_walking, layers, walked, ways_by_walking
from tests.samples import HUGE, Agreeable, all_waggons, integers_outside, no_integers, no_turnings, plain, refused
from tests.yard import drawn

# Rows of six waggons that are as far from the row onward as can be.
FARTHEST = [(3, 6, 2, 5, 1, 4), (6, 5, 4, 3, 2, 1), (2, 1, 4, 3, 6, 5)]


def pairs_of(many, seeds):
    """Drawn pairs of rows of so many waggons, with and without waggons that face back."""
    found = []
    for seed in seeds:
        found.append((drawn(seed, many), drawn(seed + 50, many)))
        found.append((drawn(seed, many, backs=False), drawn(seed + 50, many, backs=False)))
    return found


def first_way(one, other):
    return next(ways(one, other))


def no_ways(one, known):
    """Values of every kind that are none of the fewest rows of turnings that are known."""
    many = len(one)
    found = no_integers() + no_turnings(many) + [0, 1, -1, HUGE, -HUGE, "0-0"]
    found += [(turning,) for turning in no_turnings(many)] + [known, list(known), Agreeable(), (Agreeable(),)]
    for way in known[:3] + known[-3:]:
        found += [list(way), [list(turning) for turning in way], tuple(list(turning) for turning in way), (way,), [way]]
        found += [way + ((0, 0), (0, 0)), ((0, 0), (0, 0)) + way, way[:-1], way[1:], way + way, way + ((0, 0),)]
        found += [str(way), dict(way), way + (None,), way[:-1] + (None,), way[:-1] + (Agreeable(),)]
        found += [("turns", way), way[:-1] + ((0, many),), way[:-1] + ((-1, 0),), way[:-1] + ((0, HUGE),)]
        for at, (first, last) in enumerate(way):
            others = [[first, last], (first, last, 0), (last + 1, first), (first, str(last)), (first, Agreeable())]
            others += [(first, last == 1)] if last < 2 else []
            others += [(first == 1, last)] if first < 2 else []
            found += [way[:at] + (other,) + way[at + 1:] for other in others]
            found += [way[:at] + (other,) + way[at + 1:] for other in turnings_of(many)]
    # What is told to be equal to everything, or is True in the place of 1, is no such way either.
    return [value for value in found if not (plain(value) and value in known)]


class Counted(unittest.TestCase):
    def test_most_ways(self):
        self.assertEqual(MOST_WAYS, 6)
        self.assertIs(type(MOST_WAYS), int)

    def test_all_pairs_of_up_to_three_waggons(self):
        for many in range(4):
            told = {}
            for other in all_waggons(many):
                counts = counts_by_walking(layers(other))
                for one in all_waggons(many):
                    told[one, other] = count_ways(Row(one), Row(other))
                    self.assertEqual(told[one, other], counts[one])
                    self.assertIs(type(told[one, other]), int)
            for one, other in told:
                self.assertEqual(told[one, other], told[other, one])

    def test_all_rows_of_four_waggons(self):
        counts = counts_by_walking(walked(4))
        for waggons in all_waggons(4):
            self.assertEqual(count_ways(Row(waggons), onward(4)), counts[waggons])
            self.assertEqual(count_ways(onward(4), Row(waggons)), counts[waggons])

    def test_drawn_pairs_of_four_and_five_waggons(self):
        for many in (4, 5):
            for one, other in pairs_of(many, range(6)):
                counts = counts_by_walking(layers(other))
                self.assertEqual(count_ways(Row(one), Row(other)), counts[one])
                self.assertEqual(count_ways(Row(other), Row(one)), counts[one])

    def test_rows_of_six_waggons(self):
        counts = counts_by_walking(walked(6))
        rows = FARTHEST + [drawn(seed, 6) for seed in range(8)]
        for waggons in rows:
            self.assertEqual(count_ways(Row(waggons), onward(6)), counts[waggons])
            self.assertEqual(count_ways(onward(6), Row(waggons)), counts[waggons])
        self.assertEqual(max(counts.values()), 14616)

    def test_from_a_row_to_itself(self):
        for many in range(7):
            for waggons in (drawn(1, many), drawn(2, many, backs=False), tuple(range(-many, 0))):
                self.assertEqual(count_ways(Row(waggons), Row(waggons)), 1)
                self.assertEqual(list(ways(Row(waggons), Row(waggons))), [()])
                self.assertEqual(way_at(Row(waggons), Row(waggons), 0), ())
                self.assertEqual(way_number(Row(waggons), Row(waggons), ()), 0)

    def test_as_many_as_behind_the_first_turnings(self):
        for one, other in pairs_of(5, range(8)):
            one, other = Row(one), Row(other)
            behind = [count_ways(turned(one, turning), other) for turning in first_turns(one, other)]
            self.assertEqual(count_ways(one, other), sum(behind))

    def test_both_renamed_and_both_turned_about(self):
        for one, other in pairs_of(5, range(4)):
            names = Row(drawn(9, 5))
            one, other = Row(one), Row(other)
            self.assertEqual(count_ways(renamed(one, names), renamed(other, names)), count_ways(one, other))
            self.assertEqual(count_ways(one.backward(), other.backward()), count_ways(one, other))

    def test_by_hand(self):
        self.assertEqual(count_ways(Row([]), Row([])), 1)
        self.assertEqual(count_ways(Row([-1]), Row([1])), 1)
        self.assertEqual(count_ways(Row([-1, -2]), Row([1, 2])), 2)
        self.assertEqual(count_ways(Row([2, 1]), Row([1, 2])), 6)
        self.assertEqual(count_ways(Row([-1, 2, -3, 4, -5, 6]), onward(6)), 6)


class Told(unittest.TestCase):
    def check(self, one, other, expected):
        told = list(ways(Row(one), Row(other)))
        self.assertEqual(told, expected)
        self.assertEqual(told, sorted(set(told)))
        self.assertTrue(all(plain(way) for way in told))
        self.assertEqual(len(told), count_ways(Row(one), Row(other)))

    def test_all_pairs_of_up_to_two_waggons(self):
        for many in range(3):
            for other in all_waggons(many):
                for one in all_waggons(many):
                    self.check(one, other, ways_by_walking(one, layers(other)))

    def test_pairs_of_three_waggons(self):
        for other in all_waggons(3)[::7]:
            met = layers(other)
            for one in all_waggons(3):
                self.check(one, other, ways_by_walking(one, met))

    def test_drawn_pairs_of_four_and_five_waggons(self):
        for many in (4, 5):
            for one, other in pairs_of(many, range(6)):
                self.check(one, other, ways_by_walking(one, layers(other)))

    def test_a_row_of_six_waggons_as_far_as_can_be(self):
        for waggons in FARTHEST[:2]:
            self.check(waggons, tuple(range(1, 7)), ways_by_walking(waggons, walked(6)))

    def test_by_hand(self):
        self.check((-1, -2), (1, 2), [((0, 0), (1, 1)), ((1, 1), (0, 0))])
        self.check((-2, -1), (1, 2), [((0, 1),)])
        self.check((), (), [()])
        self.check((2, 1), (1, 2), [
            ((0, 0), (0, 1), (0, 0)), ((0, 0), (1, 1), (0, 1)), ((0, 1), (0, 0), (1, 1)),
            ((0, 1), (1, 1), (0, 0)), ((1, 1), (0, 0), (0, 1)), ((1, 1), (0, 1), (1, 1))])

    def test_generator(self):
        one, other = Row([2, 1]), Row([1, 2])
        told = ways(one, other)
        self.assertIsInstance(told, types.GeneratorType)
        self.assertEqual(next(told), ((0, 0), (0, 1), (0, 0)))
        again = ways(one, other)
        self.assertEqual(next(again), ((0, 0), (0, 1), (0, 0)))
        self.assertEqual(len(list(told)), 5)
        self.assertEqual(list(told), [])
        self.assertEqual(len(list(again)), 5)

    def test_the_first_ones_of_many(self):
        row = Row(FARTHEST[0])
        some = list(islice(ways(row, onward(6)), 20))
        self.assertEqual(some, [way_at(row, onward(6), number) for number in range(3)] + some[3:])
        for way in some:
            self.assertEqual(run(row, way), onward(6))

    def test_refused_when_the_first_one_is_asked_for(self):
        for one, other in ((0, 1), (1, 0), (6, 7), (7, 6), (5, 6), (24, 23)):
            told = ways(onward(one), onward(other))
            self.assertIsInstance(told, types.GeneratorType)
            refused(self, errors.OtherLength, None, None, next, told)
            self.assertEqual(list(told), [])
        for many in (7, 8, 10, 11, 24):
            told = ways(onward(many), onward(many))
            self.assertIsInstance(told, types.GeneratorType)
            refused(self, errors.TooGreat, "most", 6, next, told)
            self.assertEqual(list(told), [])


class Numbered(unittest.TestCase):
    def check(self, one, other, expected):
        for number, way in enumerate(expected):
            told = way_at(Row(one), Row(other), number)
            self.assertEqual(told, way)
            self.assertTrue(plain(told))
            self.assertEqual(way_number(Row(one), Row(other), way), number)
            self.assertIs(type(way_number(Row(one), Row(other), way)), int)

    def test_there_and_back(self):
        for many in range(4):
            for other in all_waggons(many)[::11]:
                met = layers(other)
                for one in all_waggons(many):
                    self.check(one, other, ways_by_walking(one, met))

    def test_drawn_pairs_of_four_waggons(self):
        for one, other in pairs_of(4, range(2)):
            self.check(one, other, ways_by_walking(one, layers(other)))

    def test_pairs_of_five_waggons(self):
        for one, other in pairs_of(5, range(3)):
            known = ways_by_walking(one, layers(other))
            one, other = Row(one), Row(other)
            for number in sorted({0, 1, len(known) // 3, len(known) // 2, len(known) - 1}):
                if number < len(known):
                    self.assertEqual(way_at(one, other, number), known[number])
                    self.assertEqual(way_number(one, other, known[number]), number)

    def test_rows_of_six_waggons_as_far_as_can_be(self):
        for waggons in FARTHEST[:1]:
            known = ways_by_walking(waggons, walked(6))
            row, many = Row(waggons), len(known)
            self.assertEqual(many, 14616)
            for number in (0, 1, many // 2, many - 2, many - 1):
                self.assertEqual(way_at(row, onward(6), number), known[number])
                self.assertEqual(way_number(row, onward(6), known[number]), number)
            for number in (-1, many, many + 1, True, None):
                refused(self, errors.BadNumber, "value", number, way_at, row, onward(6), number)

    def test_the_fewest_one_has_a_number(self):
        for many in range(6):
            for one, other in pairs_of(many, range(3)):
                one, other = Row(one), Row(other)
                turnings = fewest(one, other)
                self.assertEqual(way_at(one, other, way_number(one, other, turnings)), turnings)

    def test_bad_number(self):
        for one, other in [((), ()), ((1,), (1,)), ((-1,), (1,)), ((2, 1), (1, 2)), ((3, -1, 2), (-2, 1, 3))]:
            known = ways_by_walking(one, layers(other))
            one, other = Row(one), Row(other)
            for value in no_integers() + integers_outside(0, len(known) - 1) + [-1, len(known)] + list(known):
                refused(self, errors.BadNumber, "value", value, way_at, one, other, value)
                refused(self, errors.BadNumber, "value", value, way_at, number=value, other=other, one=one)
            self.assertEqual(way_at(one, other, len(known) - 1), known[-1])
            self.assertEqual(way_at(one, other, 0), known[0])

    def test_bad_way(self):
        pairs = [((), ()), ((1,), (1,)), ((-1,), (1,)), ((2, 1), (1, 2)), ((-2, -1), (1, 2)), ((1, 2), (1, 2))]
        pairs += [((3, -1, 2), (-2, 1, 3)), (drawn(1, 4), drawn(2, 4)), ((3, 2, 1, 4), (1, 2, 3, 4))]
        for one, other in pairs:
            known = ways_by_walking(one, layers(other))
            one, other = Row(one), Row(other)
            for value in no_ways(one, known):
                refused(self, errors.BadWay, "value", value, way_number, one, other, value)
            self.assertEqual(way_number(one, other, known[-1]), len(known) - 1)

    def test_bad_way_of_longer_rows(self):
        for many in (5, 6):
            one, other = Row(drawn(3, many)), Row(drawn(4, many))
            way = fewest(one, other)
            for value in (list(way), way[1:], way[:-1], way + ((0, 0),) * 2, way[:-1] + ([0, 0],), None, (), 0):
                refused(self, errors.BadWay, "value", value, way_number, one, other, value)

    def test_longer_ones_that_lead_there_are_none(self):
        one, other = Row([-1, 2, 3]), onward(3)
        for longer in (((0, 0),) * 3, ((1, 1), (0, 0), (1, 1)), ((0, 2), (0, 2), (0, 0))):
            self.assertEqual(run(one, longer), other)
            refused(self, errors.BadWay, "value", longer, way_number, one, other, longer)


class Refused(unittest.TestCase):
    def calls(self):
        return [count_ways, first_way] + [
            lambda one, other, value=value, call=call: call(one, other, value)
            for call in (way_at, way_number) for value in (0, None, -1, (), ((0, 0),), [(0, 0)], True, Agreeable())]

    def test_other_length_first(self):
        for call in self.calls():
            for one, other in ((0, 1), (1, 0), (5, 6), (6, 5), (6, 7), (7, 6), (7, 8), (24, 23), (0, 24)):
                row, goal = Row(drawn(1, one)), Row(drawn(2, other))
                refused(self, errors.OtherLength, None, None, call, row, goal)
                self.assertEqual((row, goal), (Row(drawn(1, one)), Row(drawn(2, other))))

    def test_then_more_than_six(self):
        for call in self.calls():
            for many in (7, 8, 10, 11, 12, 23, 24):
                row = Row(drawn(1, many))
                refused(self, errors.TooGreat, "most", 6, call, row, row)
                refused(self, errors.TooGreat, "most", 6, call, row, onward(many))
                self.assertEqual(row, Row(drawn(1, many)))

    def test_six_are_not_too_many(self):
        one, other = onward(6), Row([1, 2, -5, -4, -3, 6])
        self.assertEqual(count_ways(one, other), 1)
        self.assertEqual(list(ways(one, other)), [((2, 4),)])
        self.assertEqual(way_at(one, other, 0), ((2, 4),))
        self.assertEqual(way_number(one, other, ((2, 4),)), 0)


class Same(unittest.TestCase):
    def test_equal_calls_and_unchanged_arguments(self):
        one, other = Row([3, -1, 2, 4]), Row([-2, 1, 3, 4])
        for _ in range(2):
            self.assertEqual(count_ways(one, other), count_ways(Row((3, -1, 2, 4)), Row((-2, 1, 3, 4))))
            self.assertEqual(list(ways(one, other)), list(ways(one, other)))
            self.assertEqual(way_at(one, other, 1), way_at(one, other, 1))
            self.assertEqual(way_number(one, other, way_at(one, other, 1)), 1)
            self.assertEqual((one.waggons, other.waggons), ((3, -1, 2, 4), (-2, 1, 3, 4)))

    def test_values_are_not_changed(self):
        value = [[0, 1], [1, 1]]
        refused(self, errors.BadWay, "value", value, way_number, Row([2, 1]), Row([1, 2]), value)
        self.assertEqual(value, [[0, 1], [1, 1]])
        self.assertEqual(distance(Row([2, 1]), Row([1, 2])), 3)

    def test_by_name(self):
        one, other = Row([-1, -2]), Row([1, 2])
        self.assertEqual(count_ways(other=other, one=one), 2)
        self.assertEqual(list(ways(other=other, one=one)), [((0, 0), (1, 1)), ((1, 1), (0, 0))])
        self.assertEqual(way_at(number=1, other=other, one=one), ((1, 1), (0, 0)))
        self.assertEqual(way_number(value=((1, 1), (0, 0)), one=one, other=other), 1)

    def test_defined_in_this_file(self):
        for name in ("count_ways", "ways", "way_at", "way_number"):
            self.assertEqual(getattr(module, name).__module__, "faceabout.ways")


if __name__ == "__main__":
    unittest.main()
