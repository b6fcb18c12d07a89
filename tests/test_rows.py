"""Promises 1, 2, 3 and the second half of 6: rows."""

import operator
import unittest

from faceabout import errors, rows
from faceabout.rows import MOST_WAGGONS, Row, onward, renamed, seen
from tests.samples import (
    HUGE, Agreeable, all_waggons, integers_outside, long_waggons, no_integers, refused, small_rows)

LENGTHS = (0, 1, 2, 3, 12, 23, 24)


class Making(unittest.TestCase):
    def test_most_waggons(self):
        self.assertEqual(MOST_WAGGONS, 24)

    def test_of_a_list_and_of_a_tuple(self):
        for many in LENGTHS:
            waggons = long_waggons(many) if many else []
            for given in (waggons, tuple(waggons)):
                row = Row(given)
                self.assertIs(type(row.waggons), tuple)
                self.assertEqual(row.waggons, tuple(waggons))

    def test_all_small_rows(self):
        for many in range(5):
            for waggons in all_waggons(many):
                self.assertEqual(Row(list(waggons)).waggons, waggons)

    def test_by_name(self):
        self.assertEqual(Row(waggons=[2, -1]).waggons, (2, -1))

    def test_list_changed_behind(self):
        given = [3, -1, 2]
        row = Row(given)
        given[0] = 7
        given.append(4)
        self.assertEqual(row.waggons, (3, -1, 2))
        self.assertEqual(len(row), 3)
        given.clear()
        self.assertEqual(row, Row([3, -1, 2]))

    def test_list_is_not_changed(self):
        given = [3, -1, 2]
        Row(given).backward().inverse()
        self.assertEqual(given, [3, -1, 2])

    def test_no_list_and_no_tuple(self):
        for value in no_integers() + [0, 1, -1, HUGE, "123", {1: 1}, "x" * 30, dict.fromkeys(range(1, 31))]:
            if not isinstance(value, (list, tuple)):
                refused(self, errors.BadRow, "place", None, Row, value)
                refused(self, errors.BadRow, "place", None, Row, waggons=value)

    def test_more_than_24(self):
        for given in (
                list(range(1, 26)), tuple(range(1, 26)), [1] * 25, [None] * 25, [True] * 100, (0,) * 1000):
            refused(self, errors.TooGreat, "most", 24, Row, given)

    def test_items_that_are_no_integers(self):
        for value in no_integers():
            refused(self, errors.BadRow, "place", 0, Row, [value])
            refused(self, errors.BadRow, "place", 0, Row, (value,))
            refused(self, errors.BadRow, "place", 1, Row, [2, value, 3])
            refused(self, errors.BadRow, "place", 2, Row, (2, -3, value))
            refused(self, errors.BadRow, "place", 23, Row, list(range(1, 24)) + [value])

    def test_integers_that_are_no_waggons(self):
        for many in (1, 2, 3, 23, 24):
            for value in [0] + integers_outside(-many, many):
                for place in {0, many // 2, many - 1}:
                    given = list(range(1, many + 1))
                    given[place] = value
                    refused(self, errors.BadRow, "place", place, Row, given)

    def test_numbers_that_stand_twice(self):
        for again in (1, -1):
            refused(self, errors.BadRow, "place", 1, Row, [again, 1])
            refused(self, errors.BadRow, "place", 2, Row, (1, 2, again))
            refused(self, errors.BadRow, "place", 2, Row, (-1, 2, again, 3))
            refused(self, errors.BadRow, "place", 23, Row, list(range(-23, 0)) + [again])

    def test_first_fault_first(self):
        refused(self, errors.BadRow, "place", 1, Row, [1, 1, None])
        refused(self, errors.BadRow, "place", 1, Row, [1, None, 1])
        refused(self, errors.BadRow, "place", 0, Row, [0, 5, 5])
        refused(self, errors.BadRow, "place", 2, Row, [3, -2, 4])
        refused(self, errors.BadRow, "place", 1, Row, (2, True, 2))
        refused(self, errors.BadRow, "place", 1, Row, (2, HUGE, 2))

    def test_true_and_false_are_no_waggons(self):
        refused(self, errors.BadRow, "place", 0, Row, [True])
        refused(self, errors.BadRow, "place", 1, Row, [2, True])
        refused(self, errors.BadRow, "place", 0, Row, [False])

    def test_methods_and_functions_stand_where_the_interface_lists_them(self):
        for name in ("__init__", "__len__", "__eq__", "at", "place_of", "backs", "framed", "inverse", "backward"):
            self.assertIn(name, vars(Row))
        for made in (Row, onward, seen, renamed):
            self.assertEqual(made.__module__, "faceabout.rows")
        self.assertIn("waggons", vars(Row([1])))


class Telling(unittest.TestCase):
    def test_len(self):
        for many in LENGTHS:
            self.assertEqual(len(onward(many)), many)
            self.assertEqual(len(Row(long_waggons(many) if many else ())), many)

    def test_equal(self):
        known = small_rows()
        for one in known:
            for other in known:
                self.assertIs(one == other, one.waggons == other.waggons)
                self.assertIs(one != other, one.waggons != other.waggons)

    def test_equal_of_list_and_tuple(self):
        self.assertTrue(Row([2, -1, 3]) == Row((2, -1, 3)))
        self.assertFalse(Row([2, -1, 3]) == Row((2, 1, 3)))
        self.assertFalse(Row([2, -1, 3]) != Row((2, -1, 3)))

    def test_at(self):
        for many in LENGTHS[1:]:
            waggons = long_waggons(many)
            row = Row(waggons)
            self.assertEqual([row.at(place) for place in range(many)], waggons)
            self.assertEqual(row.at(place=many - 1), waggons[-1])

    def test_at_refused(self):
        for many in LENGTHS:
            row = onward(many)
            for value in no_integers() + integers_outside(0, many - 1):
                refused(self, errors.BadPlace, "value", value, row.at, value)
                refused(self, errors.BadPlace, "value", value, row.at, place=value)
            self.assertEqual(row, onward(many))

    def test_place_of(self):
        for many in LENGTHS[1:]:
            waggons = long_waggons(many)
            row = Row(waggons)
            for place, waggon in enumerate(waggons):
                self.assertEqual(row.place_of(abs(waggon)), place)
                self.assertEqual(row.place_of(number=abs(waggon)), place)

    def test_place_of_refused(self):
        for many in LENGTHS:
            row = onward(many).backward()
            for value in no_integers() + integers_outside(1, many) + [-many]:
                refused(self, errors.BadNumber, "value", value, row.place_of, value)
                refused(self, errors.BadNumber, "value", value, row.place_of, number=value)

    def test_backs(self):
        self.assertEqual(Row([]).backs(), 0)
        self.assertEqual(Row([1]).backs(), 0)
        self.assertEqual(Row([-1]).backs(), 1)
        self.assertEqual(Row([2, -3, 1, -4]).backs(), 2)
        self.assertEqual(onward(24).backs(), 0)
        self.assertEqual(onward(24).backward().backs(), 24)

    def test_framed(self):
        self.assertEqual(Row([]).framed(), (0, 1))
        self.assertEqual(Row([-1]).framed(), (0, -1, 2))
        self.assertEqual(Row([2, -3, 1]).framed(), (0, 2, -3, 1, 4))
        self.assertEqual(onward(24).framed(), tuple(range(26)))
        self.assertIs(type(Row([1]).framed()), tuple)

    def test_inverse(self):
        self.assertEqual(Row([]).inverse(), Row([]))
        self.assertEqual(Row([-1]).inverse(), Row([-1]))
        self.assertEqual(Row([2, -3, 1]).inverse(), Row([3, 1, -2]))
        self.assertEqual(Row([-2, 3, 4, -1]).inverse(), Row([-4, -1, 2, 3]))

    def test_inverse_as_the_document_words_it(self):
        for row in small_rows() + [Row(long_waggons(many)) for many in (5, 23, 24)]:
            other = row.inverse()
            for place in range(len(row)):
                stands = row.place_of(place + 1)
                faces = 1 if row.at(stands) > 0 else -1
                self.assertEqual(other.at(place), faces * (stands + 1))

    def test_inverse_twice(self):
        for row in small_rows() + [Row(long_waggons(many)) for many in (5, 23, 24)]:
            self.assertEqual(row.inverse().inverse(), row)
            self.assertEqual(row.inverse().backs(), row.backs())

    def test_backward(self):
        self.assertEqual(Row([]).backward(), Row([]))
        self.assertEqual(Row([1]).backward(), Row([-1]))
        self.assertEqual(Row([2, -3, 1]).backward(), Row([-1, 3, -2]))
        self.assertEqual(onward(24).backward(), Row(list(range(-24, 0))))
        for row in small_rows():
            self.assertEqual(row.backward().backward(), row)

    def test_nothing_that_is_told_changes_the_row(self):
        row = Row([2, -3, 1])
        for _ in range(2):
            self.assertEqual(row.inverse(), Row([3, 1, -2]))
            self.assertEqual(row.backward(), Row([-1, 3, -2]))
            self.assertEqual(row.framed(), (0, 2, -3, 1, 4))
            self.assertEqual((row.backs(), row.at(1), row.place_of(3)), (1, -3, 1))
            self.assertEqual(row.waggons, (2, -3, 1))


class Onward(unittest.TestCase):
    def test_onward(self):
        for many in range(25):
            self.assertEqual(onward(many).waggons, tuple(range(1, many + 1)))
            self.assertEqual(onward(many=many), onward(many))

    def test_refused(self):
        for value in no_integers() + integers_outside(0, 24):
            refused(self, errors.BadNumber, "value", value, onward, value)
            refused(self, errors.BadNumber, "value", value, onward, many=value)


class Seen(unittest.TestCase):
    def test_seen(self):
        self.assertEqual(seen(Row([1, 2, 3]), Row([3, 1, 2])), Row([2, 3, 1]))
        self.assertEqual(seen(Row([3, -1, 2]), Row([-3, 1, 2])), Row([-1, -2, 3]))
        self.assertEqual(seen(Row([1]), Row([-1])), Row([-1]))
        self.assertEqual(seen(Row([]), Row([])), Row([]))
        self.assertEqual(seen(one=Row([1, 2, 3]), other=Row([3, 1, 2])), Row([2, 3, 1]))

    def test_as_the_document_words_it(self):
        for one in small_rows():
            for other in small_rows():
                if len(one) == len(other):
                    self.assertEqual(seen(one, other).waggons, seen_slowly(one.waggons, other.waggons))

    def test_from_itself_is_onward(self):
        for row in small_rows() + [Row(long_waggons(many)) for many in (5, 23, 24)]:
            self.assertEqual(seen(row, row), onward(len(row)))

    def test_from_onward_is_the_row(self):
        for row in small_rows():
            self.assertEqual(seen(row, onward(len(row))), row)
            self.assertEqual(seen(onward(len(row)), row), row.inverse())

    def test_renamed_takes_seen_back(self):
        known = [row for row in small_rows() if len(row) == 3]
        for one in known:
            for other in known:
                self.assertEqual(renamed(seen(one, other), other), one)
                self.assertEqual(seen(renamed(one, other), other), one)
        one, other = Row(long_waggons(24)), onward(24).backward()
        self.assertEqual(renamed(seen(one, other), other), one)

    def test_unchanged_by_a_new_naming_of_both(self):
        names = Row([3, -1, 2])
        for one in (Row(waggons) for waggons in all_waggons(3)):
            other = Row([-2, 1, 3])
            self.assertEqual(seen(renamed(one, names), renamed(other, names)), seen(one, other))

    def test_renamed(self):
        self.assertEqual(renamed(Row([]), Row([])), Row([]))
        self.assertEqual(renamed(Row([-1]), Row([-1])), Row([1]))
        self.assertEqual(renamed(Row([2, -3, 1]), Row([3, -1, 2])), Row([-1, -2, 3]))
        self.assertEqual(renamed(one=Row([2, -3, 1]), names=Row([3, -1, 2])), Row([-1, -2, 3]))
        self.assertEqual(renamed(Row([1, 2]), Row([2, -1])), Row([2, -1]))

    def test_other_length(self):
        for call in (seen, renamed):
            for one, other in ((0, 1), (1, 0), (23, 24), (24, 23), (2, 5)):
                refused(self, errors.OtherLength, None, None, call, onward(one), onward(other))
        refused(self, errors.OtherLength, None, None, seen, one=onward(1), other=onward(2))
        refused(self, errors.OtherLength, None, None, renamed, one=onward(1), names=onward(2))

    def test_arguments_are_not_changed(self):
        one, other = Row([2, -3, 1]), Row([3, -1, 2])
        self.assertEqual(seen(one, other), seen(one, other))
        self.assertEqual(renamed(one, other), renamed(one, other))
        self.assertEqual((one.waggons, other.waggons), ((2, -3, 1), (3, -1, 2)))


def seen_slowly(one, other):
    """Point 12, waggon by waggon, on tuples."""
    names = []
    for waggon in one:
        for place, there in enumerate(other):
            if abs(there) == abs(waggon):
                facing = 1 if waggon > 0 else -1
                names.append((place + 1) * facing if there > 0 else -(place + 1) * facing)
    return tuple(names)


class Operators(unittest.TestCase):
    def test_unlike_all_that_is_no_row(self):
        for row in (Row([]), Row([1]), Row([2, -1])):
            for value in no_integers() + [0, 1, 2, HUGE, row.waggons, list(row.waggons)]:
                if not isinstance(value, (Row, Agreeable)):
                    self.assertIs(row == value, False)
                    self.assertIs(value == row, False)
                    self.assertIs(row != value, True)
                    self.assertIs(value != row, True)

    def test_unlike_what_is_equal_to_everything(self):
        self.assertIs(Row([1]) == Agreeable(), False)
        self.assertIs(Row([1]) != Agreeable(), True)

    def test_no_other_operator(self):
        signs = [
            operator.lt, operator.le, operator.gt, operator.ge, operator.add, operator.sub, operator.mul,
            operator.truediv, operator.floordiv, operator.mod, operator.pow, operator.and_, operator.or_,
            operator.xor, operator.lshift, operator.rshift, operator.matmul]
        row = Row([2, -1])
        for sign in signs:
            for value in [Row([2, -1]), 0, 1, 2, True, None, [], [1], (), (1,), {}, b"x", object(), rows]:
                with self.assertRaises(TypeError):
                    sign(row, value)
                if not isinstance(value, bytes) or sign is not operator.mod:
                    with self.assertRaises(TypeError):
                        sign(value, row)
            for text in ("", "x", "12"):
                with self.assertRaises(TypeError):
                    sign(row, text)

    def test_no_sign_alone(self):
        for sign in (operator.neg, operator.pos, operator.invert, operator.abs):
            with self.assertRaises(TypeError):
                sign(Row([2, -1]))

    def test_no_item_and_no_member(self):
        row = Row([2, -1])
        with self.assertRaises(TypeError):
            row[0]
        with self.assertRaises(TypeError):
            1 in row


if __name__ == "__main__":
    unittest.main()
