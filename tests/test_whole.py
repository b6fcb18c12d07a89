"""Promise 13 of the fourth stage: the errors and the operators, over the whole program."""

import inspect
import operator
import unittest

from faceabout import bench, circles, closed, counts, errors, fewest, freed, papers, rings, rows, texts, turns, ways
from faceabout.bench import Bench
from faceabout.circles import Circle
from faceabout.rows import Row, onward
from tests.samples import HUGE, Agreeable, no_integers

FIELDS = {
    "BadRow": "place", "BadTurn": "place", "BadPlace": "value", "BadNumber": "value", "TooGreat": "most",
    "BadText": "place", "BadWay": "value", "OtherLength": None, "NothingLeft": None, "FaceError": None}
SIGNS = [
    operator.lt, operator.le, operator.gt, operator.ge, operator.add, operator.sub, operator.mul, operator.truediv,
    operator.floordiv, operator.mod, operator.pow, operator.and_, operator.or_, operator.xor, operator.lshift,
    operator.rshift, operator.matmul, operator.iadd, operator.imul, operator.ior, divmod]
LISTED = {
    rows: "Row onward seen renamed MOST_WAGGONS",
    turns: "is_turning turned run turnings_of turning_between",
    rings: "joints right_joints rings many_rings change",
    closed: "parts own_joints unfaced chains is_settled",
    fewest: "cost to_go distance bound fewest first_turns",
    papers: "paper is_paper",
    counts: "MOST_COUNTED rows_of spread ring_spread farthest farthest_rows",
    ways: "MOST_WAYS count_ways ways way_at way_number",
    freed: "free_distance free_way is_free_way",
    circles: "Circle",
    texts: "row_text turns_text read_row read_turns picture",
    bench: "Bench tried",
    errors: "FaceError BadRow BadTurn BadPlace BadNumber OtherLength TooGreat BadText BadWay NothingLeft",
}


def objects():
    """Objects of the package of each class, unlike each other."""
    return [
        Row([]), Row([1]), Row([1, -2]), Circle([1]), Circle([1, -2]), Bench(Row([]), Row([])),
        Bench(Row([1]), Row([1])), Bench(Row([1, -2]), onward(2))]


def others():
    """Values of every kind that are no objects of the package."""
    return [value for value in no_integers() if not isinstance(value, Row)] + [
        0, 1, 2, -1, HUGE, "x", (1,), [1], (1, -2), [1, -2], {1: 1}, {1}, object(), rows, errors.BadText(0)]


class Errors(unittest.TestCase):
    def test_fields_by_position_and_by_name(self):
        for name, field in FIELDS.items():
            made = getattr(errors, name)
            if field is None:
                self.assertEqual(vars(made()), {})
                continue
            for value in others() + objects():
                self.assertIs(getattr(made(value), field), value)
                self.assertIs(getattr(made(**{field: value}), field), value)
                self.assertEqual(list(vars(made(value))), [field])
            with self.assertRaises(TypeError):
                made(another=1)

    def test_classes(self):
        for name in FIELDS:
            made = getattr(errors, name)
            expected = {"FaceError": ValueError, "TooGreat": OverflowError}.get(name, errors.FaceError)
            self.assertEqual(made.__bases__, (expected,))
            self.assertEqual(made.__name__, name)

    def test_no_other_ones(self):
        found = [name for name, value in vars(errors).items() if inspect.isclass(value)]
        self.assertEqual(sorted(found), sorted(FIELDS))
        for module in LISTED:
            for name, value in vars(module).items():
                if inspect.isclass(value) and issubclass(value, BaseException):
                    self.assertIs(value, getattr(errors, name))

    def test_all_of_the_interface_stands_where_it_is_listed(self):
        for module, names in LISTED.items():
            for name in names.split():
                value = getattr(module, name)
                if not name.isupper():
                    self.assertEqual((value.__module__, value.__name__), (module.__name__, name))


class Equality(unittest.TestCase):
    def test_unlike_all_other_things(self):
        for one in objects():
            for other in others():
                self.assertIs(one == other, False)
                self.assertIs(one != other, True)
                if not isinstance(other, Agreeable):
                    self.assertIs(other == one, False)
                    self.assertIs(other != one, True)

    def test_unlike_each_other(self):
        known = objects()
        for at, one in enumerate(known):
            for number, other in enumerate(objects()):
                self.assertIs(one == other, at == number)
                self.assertIs(one != other, at != number)

    def test_subclasses_are_of_their_kind(self):
        class Other(Row):
            pass

        self.assertIs(Row([1]) == Other([1]), True)


class Operators(unittest.TestCase):
    def test_beside_other_things(self):
        for one in objects():
            for sign in SIGNS:
                for other in others() + objects():
                    with self.assertRaises(TypeError):
                        sign(one, other)
                    # Bytes and texts take what is written into them by %.
                    if not isinstance(other, (str, bytes, Agreeable)):
                        with self.assertRaises(TypeError):
                            sign(other, one)

    def test_beside_texts(self):
        for one in objects():
            for sign in SIGNS:
                for text in ("", "x", "12", "+1 -2"):
                    with self.assertRaises(TypeError):
                        sign(text, one)

    def test_alone(self):
        for one in objects():
            for sign in (operator.neg, operator.pos, operator.invert, operator.abs, operator.index, int):
                with self.assertRaises(TypeError):
                    sign(one)

    def test_items_and_members(self):
        for one in objects():
            for value in (0, 1, "", None, (0, 0), slice(None)):
                with self.assertRaises(TypeError):
                    one[value]
                with self.assertRaises(TypeError):
                    value in one


if __name__ == "__main__":
    unittest.main()
