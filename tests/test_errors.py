"""Promise 6, first half: the errors, their fields and their classes."""

import copy
import pickle
import unittest

from faceabout import errors
from tests.samples import HUGE, no_integers

WITH_FIELD = [
    (errors.BadRow, "place"), (errors.BadTurn, "place"), (errors.BadPlace, "value"),
    (errors.BadNumber, "value"), (errors.BadText, "place"), (errors.BadWay, "value"),
    (errors.TooGreat, "most"),
]
WITHOUT_FIELD = [errors.FaceError, errors.OtherLength, errors.NothingLeft]


class Fields(unittest.TestCase):
    def test_field_by_position_is_the_very_value(self):
        for made, field in WITH_FIELD:
            for value in no_integers() + [0, 3, -HUGE, HUGE]:
                self.assertIs(getattr(made(value), field), value)

    def test_field_by_name_is_the_very_value(self):
        for made, field in WITH_FIELD:
            for value in no_integers() + [0, 3, -HUGE, HUGE]:
                self.assertIs(getattr(made(**{field: value}), field), value)

    def test_field_is_the_only_one(self):
        for made, field in WITH_FIELD:
            self.assertEqual(list(vars(made(3))), [field])
            with self.assertRaises(TypeError):
                made()
            with self.assertRaises(TypeError):
                made(1, 2)

    def test_without_fields(self):
        for made in WITHOUT_FIELD:
            self.assertEqual(vars(made()), {})

    def test_message_can_be_shown_for_any_field(self):
        for made, _ in WITH_FIELD:
            for value in [None, HUGE ** 9, "x", [1]]:
                self.assertIsInstance(str(made(value)), str)
        for made in WITHOUT_FIELD:
            self.assertIsInstance(str(made()), str)

    def test_raised_and_caught_with_its_field(self):
        for made, field in WITH_FIELD:
            value = ["the very one"]
            with self.assertRaises(made) as caught:
                raise made(value)
            self.assertIs(getattr(caught.exception, field), value)

    def test_copies_keep_the_field(self):
        for made, field in WITH_FIELD:
            for again in (copy.copy(made(5)), pickle.loads(pickle.dumps(made(5)))):
                self.assertIs(type(again), made)
                self.assertEqual(getattr(again, field), 5)
        for made in WITHOUT_FIELD:
            self.assertIs(type(pickle.loads(pickle.dumps(made()))), made)


class Classes(unittest.TestCase):
    def test_direct_subclasses_of_face_error(self):
        for made in [
                errors.BadRow, errors.BadTurn, errors.BadPlace, errors.BadNumber, errors.OtherLength,
                errors.BadText, errors.BadWay, errors.NothingLeft]:
            self.assertEqual(made.__bases__, (errors.FaceError,))

    def test_bases_of_the_two_others(self):
        self.assertEqual(errors.FaceError.__bases__, (ValueError,))
        self.assertEqual(errors.TooGreat.__bases__, (OverflowError,))

    def test_too_great_is_no_face_error(self):
        self.assertFalse(issubclass(errors.TooGreat, errors.FaceError))
        self.assertFalse(issubclass(errors.TooGreat, ValueError))
        self.assertFalse(issubclass(errors.FaceError, ArithmeticError))

    def test_none_is_a_subclass_of_another_one(self):
        made = [named for named, _ in WITH_FIELD] + [errors.OtherLength, errors.NothingLeft]
        for one in made:
            for other in made:
                self.assertEqual(issubclass(one, other), one is other)

    def test_none_is_a_lookup_error_or_one_of_kind(self):
        for made in [named for named, _ in WITH_FIELD] + WITHOUT_FIELD:
            self.assertFalse(issubclass(made, (LookupError, TypeError, AttributeError)))

    def test_defined_in_this_file(self):
        for made in [named for named, _ in WITH_FIELD] + WITHOUT_FIELD:
            self.assertEqual(made.__module__, "faceabout.errors")


if __name__ == "__main__":
    unittest.main()
