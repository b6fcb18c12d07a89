"""Promises 4 to 6 of the fourth stage: circles."""

import unittest

from faceabout import circles, errors
from faceabout.circles import Circle
from faceabout.fewest import distance
from faceabout.rows import Row, onward
from tests.looks import about, layers_around, stored_waggons, turned_arc
from tests.samples import HUGE, Agreeable, all_waggons, integers_outside, no_integers, plain, refused
from tests.yard import U, beside, drawn, drawn_mostly_onward, drawn_nested, long_branch

LENGTHS = (1, 2, 3, 5, 10, 11, 12, 23, 24)


def kinds(many):
    """The waggons of circles of so many waggons, with and without waggons that face back."""
    return [
        drawn(1, many), drawn(2, many), drawn(3, many, backs=False), drawn_mostly_onward(4, many),
        tuple(range(1, many + 1)), tuple(range(-many, 0)), tuple(range(many, 0, -1))]


def stored_circles(many):
    """The stored waggons of all circles of so many waggons."""
    return sorted({stored_waggons(waggons) for waggons in all_waggons(many)})


def no_arcs(many):
    """Values of every kind that are no arcs of circles of so many waggons."""
    found = [value for value in no_integers() if not (type(value) is tuple and value == (0, 1) and many > 1)]
    found += [0, 1, -1, HUGE, "0-1", (), (0,), (0, 0, 0), [0, 0], ((0, 0),), ([0, 0],), {0: 0, 1: 1}, Agreeable()]
    found += [(True, 0), (0, True), (False, False), (0, False), (False, 0), (None, 0), (0, None), ("0", "0")]
    found += [(0, Agreeable()), (Agreeable(), 0), ([0], [0]), ((0, 0), (0, 0)), (Row([1]), 0)]
    for value in integers_outside(0, many - 1):
        found += [(value, 0), (0, value), (value, value), (many - 1, value)]
    return found


class Making(unittest.TestCase):
    def test_all_small_circles(self):
        for many in (1, 2, 3, 4):
            for waggons in all_waggons(many):
                told = Circle(list(waggons)).waggons
                self.assertIs(type(told), tuple)
                self.assertTrue(plain(told))
                self.assertEqual(told, stored_waggons(waggons))
                self.assertEqual(told[0], 1)

    def test_as_many_as_the_document_says(self):
        for many, expected in ((1, 1), (2, 2), (3, 8), (4, 48), (5, 384)):
            self.assertEqual(len({Circle(waggons).waggons for waggons in all_waggons(many)}), expected)

    def test_begun_at_any_place_gone_either_way(self):
        for many in LENGTHS:
            for waggons in kinds(many):
                circle = Circle(waggons)
                self.assertEqual(circle.waggons, stored_waggons(waggons))
                for way in (waggons, about(waggons)):
                    for at in range(many):
                        other = Circle(list(way[at:] + way[:at]))
                        self.assertEqual(other.waggons, circle.waggons)
                        self.assertIs(other == circle, True)
                        self.assertIs(other != circle, False)
                        self.assertEqual(other.rest(), circle.rest())

    def test_by_hand(self):
        self.assertEqual(Circle([1]).waggons, (1,))
        self.assertEqual(Circle((-1,)).waggons, (1,))
        self.assertEqual(Circle([2, -1]).waggons, (1, -2))
        self.assertEqual(Circle([2, 1]).waggons, (1, 2))
        self.assertEqual(Circle([3, -1, 2, 4]).waggons, (1, -3, -4, -2))
        self.assertEqual(Circle([2, 3, 1]).waggons, (1, 2, 3))
        self.assertEqual(Circle(waggons=[2, 3, 1]).waggons, (1, 2, 3))

    def test_list_changed_behind(self):
        given = [3, -1, 2]
        circle = Circle(given)
        given[0] = 1
        given.append(4)
        self.assertEqual(circle.waggons, (1, -3, -2))
        self.assertEqual(given, [1, -1, 2, 4])

    def test_len(self):
        for many in LENGTHS:
            self.assertEqual(len(Circle(drawn(1, many))), many)

    def test_rest(self):
        self.assertEqual(Circle([1]).rest(), Row([]))
        self.assertEqual(Circle([3, -1, 2, 4]).rest(), Row([-2, -3, -1]))
        for many in LENGTHS:
            for waggons in kinds(many):
                told = Circle(waggons).rest()
                self.assertIs(type(told), Row)
                stored = stored_waggons(waggons)[1:]
                self.assertEqual(told.waggons, tuple(number - 1 if number > 0 else number + 1 for number in stored))

    def test_equal(self):
        known = [Circle(waggons) for many in (1, 2, 3) for waggons in all_waggons(many)]
        for one in known:
            for other in known:
                self.assertIs(one == other, one.waggons == other.waggons)
                self.assertIs(one != other, one.waggons != other.waggons)

    def test_unlike_rows(self):
        for waggons in ((1,), (1, 2), (1, -2, 3)):
            for value in (Row(waggons), waggons, list(waggons), None, 1):
                self.assertIs(Circle(waggons) == value, False)
                self.assertIs(value == Circle(waggons), False)
                self.assertIs(Circle(waggons) != value, True)

    def test_methods_stand_in_the_class(self):
        for name in ("__init__", "__len__", "__eq__", "rest", "turned_at", "run", "distance", "fewest"):
            self.assertIn(name, vars(Circle))
        self.assertEqual(Circle.__module__, "faceabout.circles")
        self.assertEqual(circles.Circle, Circle)
        self.assertIn("waggons", vars(Circle([1])))


class MakingRefused(unittest.TestCase):
    def test_no_list_and_no_tuple(self):
        for value in no_integers() + [0, 1, HUGE, "123", {1: 1}, Circle([1]), onward(2)]:
            if not isinstance(value, (list, tuple)):
                refused(self, errors.BadRow, "place", None, Circle, value)
                refused(self, errors.BadRow, "place", None, Circle, waggons=value)

    def test_more_than_24(self):
        for given in (list(range(1, 26)), tuple(range(1, 26)), [None] * 25, (0,) * 100):
            refused(self, errors.TooGreat, "most", 24, Circle, given)

    def test_items(self):
        for value in no_integers() + [0, 3, -3, HUGE, -HUGE]:
            refused(self, errors.BadRow, "place", 0, Circle, [value, 1])
            refused(self, errors.BadRow, "place", 1, Circle, (2, value))
        refused(self, errors.BadRow, "place", 2, Circle, [3, -1, 1])
        refused(self, errors.BadRow, "place", 0, Circle, [0])
        refused(self, errors.BadRow, "place", 0, Circle, [True])
        refused(self, errors.BadRow, "place", 23, Circle, list(range(1, 24)) + [-5])

    def test_no_waggon(self):
        for given in ([], ()):
            refused(self, errors.BadNumber, "value", 0, Circle, given)


class Turned(unittest.TestCase):
    def test_all_arcs(self):
        for many in LENGTHS:
            for waggons in kinds(many)[::3] if many > 12 else kinds(many):
                circle = Circle(waggons)
                stored = circle.waggons
                for first in range(many):
                    for last in range(many):
                        behind = circle.turned_at((first, last))
                        self.assertIs(type(behind), Circle)
                        self.assertEqual(behind.waggons, turned_arc(stored, (first, last)))
                self.assertEqual(circle.waggons, stored)

    def test_the_arc_of_all_other_waggons(self):
        for many in (2, 3, 5, 12, 24):
            circle = Circle(drawn(5, many))
            for first in range(many):
                for last in range(many):
                    if (last + 1) % many != first:
                        others = ((last + 1) % many, (first - 1) % many)
                        self.assertEqual(circle.turned_at((first, last)), circle.turned_at(others))

    def test_all_waggons(self):
        for many in LENGTHS:
            circle = Circle(drawn(6, many))
            for first in range(many):
                self.assertEqual(circle.turned_at((first, (first - 1) % many)), circle)

    def test_twice_gives_the_circle_again(self):
        for many in (2, 3, 5, 12):
            circle = Circle(drawn(7, many))
            for first in range(1, many):
                for last in range(first, many):
                    self.assertEqual(circle.turned_at((first, last)).turned_at((first, last)), circle)

    def test_by_hand(self):
        circle = Circle([1, 2, 3, 4])
        self.assertEqual(circle.turned_at((1, 2)).waggons, (1, -3, -2, 4))
        self.assertEqual(circle.turned_at((3, 0)).waggons, (1, -3, -2, 4))
        self.assertEqual(circle.turned_at((2, 2)).waggons, (1, 2, -3, 4))
        self.assertEqual(circle.turned_at((0, 0)).waggons, (1, -4, -3, -2))
        self.assertEqual(circle.turned_at(arc=(2, 0)).waggons, (1, -2, 3, 4))
        self.assertEqual(Circle([1]).turned_at((0, 0)), Circle([1]))
        self.assertEqual(Circle([1, 2]).turned_at((1, 1)).waggons, (1, -2))
        self.assertEqual(Circle([1, 2]).turned_at((0, 0)).waggons, (1, -2))

    def test_refused(self):
        for many in (1, 2, 3, 11, 12, 24):
            circle = Circle(drawn(1, many))
            for value in no_arcs(many):
                refused(self, errors.BadTurn, "place", 0, circle.turned_at, value)
                refused(self, errors.BadTurn, "place", 0, circle.turned_at, arc=value)
            self.assertEqual(circle.waggons, stored_waggons(drawn(1, many)))


class Run(unittest.TestCase):
    def test_one_after_another(self):
        for many in (2, 3, 5, 11, 12, 24):
            arcs = [((7 * at) % many, (5 * at + 3) % many) for at in range(20)]
            stored = stored_waggons(drawn(1, many))
            circle = Circle(stored)
            for number in range(len(arcs) + 1):
                for given in (arcs[:number], tuple(arcs[:number])):
                    self.assertEqual(circle.run(given).waggons, stored)
                if number < len(arcs):
                    stored = turned_arc(stored, arcs[number])
            self.assertEqual(circle.waggons, stored_waggons(drawn(1, many)))

    def test_by_hand(self):
        circle = Circle([1, 2, 3])
        self.assertEqual(circle.run([]), circle)
        self.assertEqual(circle.run(()), circle)
        self.assertEqual(circle.run([(2, 0), (1, 1)]).waggons, turned_arc(turned_arc((1, 2, 3), (2, 0)), (1, 1)))
        self.assertEqual(circle.run(arcs=[(1, 2), (1, 2)]), circle)
        self.assertEqual(Circle([1]).run([(0, 0)] * 99), Circle([1]))

    def test_refused(self):
        for many in (1, 2, 3, 12, 24):
            circle = Circle(drawn(1, many))
            for value in no_integers() + [0, 1, HUGE, "00", {(0, 0): 1}, circle]:
                if not isinstance(value, (list, tuple)):
                    refused(self, errors.BadTurn, "place", None, circle.run, value)
                    refused(self, errors.BadTurn, "place", None, circle.run, arcs=value)
            for value in no_arcs(many):
                refused(self, errors.BadTurn, "place", 0, circle.run, [value])
                refused(self, errors.BadTurn, "place", 0, circle.run, (value, None))
                refused(self, errors.BadTurn, "place", 2, circle.run, ((0, 0), (many - 1, 0), value))
                refused(self, errors.BadTurn, "place", 1, circle.run, [(0, 0), value, value])
            self.assertEqual(circle.waggons, stored_waggons(drawn(1, many)))
        refused(self, errors.BadTurn, "place", 0, Circle([1, 2]).run, (0, 1))

    def test_list_is_not_changed(self):
        arcs = [(2, 0), (1, 1)]
        circle = Circle([1, 2, 3])
        self.assertEqual(circle.run(arcs), circle.run(arcs))
        refused(self, errors.BadTurn, "place", 2, circle.run, arcs + [(0, 3)])
        self.assertEqual(arcs, [(2, 0), (1, 1)])


class Distances(unittest.TestCase):
    def check(self, one, other, many):
        one, other = Circle(one), Circle(other)
        told = one.distance(other)
        self.assertIs(type(told), int)
        self.assertEqual(told, many)
        self.assertEqual(other.distance(one), many)
        arcs = one.fewest(other)
        self.assertTrue(plain(arcs))
        self.assertEqual(len(arcs), many)
        self.assertEqual(one.run(arcs), other)
        self.assertEqual(one.fewest(other), arcs)

    def test_all_pairs_of_up_to_three_waggons(self):
        for many in (1, 2, 3):
            for other in stored_circles(many):
                met = layers_around(other)
                self.assertEqual(sorted(met), stored_circles(many))
                for one in stored_circles(many):
                    self.check(one, other, met[one])

    def test_circles_of_four_waggons(self):
        for other in stored_circles(4)[::5]:
            met = layers_around(other)
            for one in stored_circles(4):
                self.check(one, other, met[one])

    def test_drawn_circles_of_five_waggons(self):
        for seed in range(2):
            other = stored_waggons(drawn(seed, 5))
            met = layers_around(other)
            for one in stored_circles(5)[seed::5]:
                self.check(one, other, met[one])

    def test_whichever_way_they_are_given(self):
        met = layers_around((1, 2, 3))
        for one in all_waggons(3):
            for other in ((2, 3, 1), (-3, -2, -1), (-1, -3, -2)):
                self.check(one, other, met[stored_waggons(one)])

    def test_up_to_eleven_waggons(self):
        for many in range(1, 12):
            for one, other in zip(kinds(many), kinds(many)[1:] + kinds(many)[:1]):
                self.check(one, other, distance(Circle(one).rest(), Circle(other).rest()))
        nested = beside((), drawn_nested(1, 10))
        self.check(nested, tuple(range(1, len(nested) + 1)), Circle(nested).distance(Circle(range_of(len(nested)))))
        unfaced = beside((), U, long_branch())
        self.check(unfaced, range_of(len(unfaced)), 6 + 2)

    def test_each_arc_is_one_of_what_the_ones_before_it_have_made(self):
        for many in (2, 5, 11):
            one, other = Circle(drawn(1, many)), Circle(drawn(2, many))
            now, left = one.waggons, one.distance(other)
            for arc in one.fewest(other):
                now, left = turned_arc(now, arc), left - 1
                self.assertEqual(Circle(now).distance(other), left)
            self.assertEqual(now, other.waggons)

    def test_longer_circles_have_a_distance(self):
        for many in (12, 23, 24):
            for one, other in zip(kinds(many), kinds(many)[1:]):
                one, other = Circle(one), Circle(other)
                self.assertEqual(one.distance(other), distance(one.rest(), other.rest()))
                self.assertEqual(one.distance(other), other.distance(one))
                self.assertEqual(one.distance(Circle(about(one.waggons[3:] + one.waggons[:3]))), 0)
                for arc in ((0, 1), (many - 1, 1), (2, 2), (5, 4)):
                    self.assertLessEqual(abs(one.turned_at(arc).distance(other) - one.distance(other)), 1)

    def test_by_hand(self):
        self.check((1,), (-1,), 0)
        self.check((1, 2), (2, 1), 0)
        self.check((1, 2), (1, -2), 1)
        self.check((1, 3, 2), (1, 2, 3), 3)
        self.assertEqual(Circle([1, -2]).fewest(other=Circle([1, 2])), ((1, 1),))
        self.assertEqual(Circle([1, -2]).distance(other=Circle([1, 2])), 1)

    def test_refused(self):
        for one, other in ((1, 2), (2, 1), (11, 12), (12, 11), (12, 13), (23, 24), (24, 1), (1, 24)):
            one, other = Circle(drawn(1, one)), Circle(drawn(2, other))
            for call in (one.distance, one.fewest):
                refused(self, errors.OtherLength, None, None, call, other)
                refused(self, errors.OtherLength, None, None, call, other=other)
        for many in range(12, 25):
            one, other = Circle(drawn(1, many)), Circle(drawn(2, many))
            refused(self, errors.TooGreat, "most", 11, one.fewest, other)
            refused(self, errors.TooGreat, "most", 11, one.fewest, other=one)
            self.assertEqual(one.distance(one), 0)
            self.assertEqual(one.waggons, stored_waggons(drawn(1, many)))


def range_of(many):
    return tuple(range(1, many + 1))


if __name__ == "__main__":
    unittest.main()
