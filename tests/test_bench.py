"""Promises 9 to 12 of the fourth stage: benches."""

import random
import unittest

from faceabout import bench as module
from faceabout import errors
from faceabout.bench import Bench, tried
from faceabout.fewest import distance, fewest
from faceabout.rows import Row, onward
from faceabout.turns import turnings_of
from tests.looks import layers, turned_waggons
from tests.samples import HUGE, Agreeable, no_integers, no_turnings, plain, refused
from tests.yard import drawn

LENGTHS = (0, 1, 2, 3, 10, 11, 23, 24)


class Stop(Exception):
    """What is raised within a block."""


class Model:
    """A bench of the tests' own: lists of turnings, each row made anew from the first one."""

    def __init__(self, first, goal):
        self.first, self.goal = first, goal
        self.stand, self.taken = [], []

    def now(self):
        waggons = self.first
        for turning in self.stand:
            waggons = turned_waggons(waggons, turning)
        return waggons

    def do(self, turnings):
        if turnings:
            self.stand, self.taken = self.stand + list(turnings), []

    def undo(self):
        self.taken.append(self.stand.pop())
        return self.taken[-1]

    def redo(self):
        self.stand.append(self.taken.pop())
        return self.stand[-1]


def made(many, turnings=3, undone=1):
    """A bench of rows of so many waggons, some of whose turnings were taken back, and its model."""
    model = Model(drawn(1, many), drawn(2, many))
    bench = Bench(Row(model.first), Row(model.goal))
    if many:
        for at in range(turnings):
            turning = turnings_of(many)[5 * at % (many * (many + 1) // 2)]
            bench.do(turning)
            model.do([turning])
        for _ in range(undone):
            bench.undo()
            model.undo()
    return bench, model


def redone(bench):
    """All that can be done again, told by doing it again and taking it back."""
    found = []
    while True:
        try:
            found.append(bench.redo())
        except errors.NothingLeft:
            for _ in found:
                bench.undo()
            return found


class Checks(unittest.TestCase):
    def same(self, bench, model):
        """The bench is what the model is, what can be done again included."""
        self.assertEqual(bench.row, Row(model.now()))
        self.assertIs(type(bench.row), Row)
        self.assertEqual(bench.turnings(), tuple(model.stand))
        self.assertTrue(plain(bench.turnings()))
        self.assertEqual(len(bench), len(model.stand))
        self.assertEqual((bench.first, bench.goal), (Row(model.first), Row(model.goal)))
        left = distance(Row(model.now()), Row(model.goal))
        self.assertEqual(bench.left(), left)
        wasted = len(model.stand) + left - distance(Row(model.first), Row(model.goal))
        self.assertEqual(bench.wasted(), wasted)
        self.assertTrue(plain((bench.left(), bench.wasted())))
        self.assertEqual(redone(bench), model.taken[::-1])
        self.assertEqual(bench.turnings(), tuple(model.stand))


class Doing(Checks):
    def test_new(self):
        for many in LENGTHS:
            first, goal = Row(drawn(1, many)), Row(drawn(2, many))
            bench = Bench(first, goal)
            self.same(bench, Model(first.waggons, goal.waggons))
            self.assertEqual((bench.row, bench.turnings(), len(bench), bench.wasted()), (first, (), 0, 0))
        self.assertEqual(Bench(goal=onward(2), row=Row([2, 1])).first, Row([2, 1]))

    def test_other_length(self):
        for one, other in ((0, 1), (1, 0), (10, 11), (23, 24), (24, 23), (24, 0)):
            refused(self, errors.OtherLength, None, None, Bench, onward(one), onward(other))
            refused(self, errors.OtherLength, None, None, Bench, row=onward(one), goal=onward(other))

    def test_do(self):
        for many in LENGTHS[1:]:
            bench, model = made(many, 0, 0)
            for turning in turnings_of(many)[::max(1, many // 2)] * 2:
                model.do([turning])
                self.assertEqual(bench.do(turning), Row(model.now()))
                self.assertEqual(bench.row, Row(model.now()))
            self.same(bench, model)
        self.assertEqual(Bench(Row([2, 1]), onward(2)).do(turning=(0, 1)), Row([-1, -2]))

    def test_do_refused(self):
        for many in LENGTHS:
            bench, model = made(many)
            for value in no_turnings(many):
                refused(self, errors.BadTurn, "place", 0, bench.do, value)
                refused(self, errors.BadTurn, "place", 0, bench.do, turning=value)
            self.same(bench, model)

    def test_undo_and_redo(self):
        for many in LENGTHS[1:]:
            bench, model = made(many, 6, 0)
            for way in "uurruuuuuurrrruuurr":
                told = bench.undo() if way == "u" else bench.redo()
                self.assertEqual(told, model.undo() if way == "u" else model.redo())
                self.assertTrue(plain(told))
                self.same(bench, model)

    def test_nothing_left(self):
        for many in LENGTHS:
            bench, model = made(many, 2, 2)
            refused(self, errors.NothingLeft, None, None, bench.undo)
            self.same(bench, model)
            bench, model = made(many, 2, 0)
            refused(self, errors.NothingLeft, None, None, bench.redo)
            self.same(bench, model)

    def test_a_new_turning_ends_what_can_be_done_again(self):
        bench, model = made(3, 4, 2)
        self.assertEqual(len(redone(bench)), 2)
        bench.do((0, 0))
        model.do([(0, 0)])
        refused(self, errors.NothingLeft, None, None, bench.redo)
        self.same(bench, model)
        # Also the very turning that could have been done again.
        bench, model = made(3, 4, 2)
        turning = redone(bench)[0]
        bench.do(turning)
        self.assertEqual(redone(bench), [])

    def test_first_and_goal_stay(self):
        bench, model = made(5, 4, 1)
        first, goal = bench.first, bench.goal
        bench.do_all([(0, 4), (1, 1)])
        bench.undo()
        self.assertIs(bench.first, first)
        self.assertIs(bench.goal, goal)
        self.assertEqual((first.waggons, goal.waggons), (drawn(1, 5), drawn(2, 5)))

    def test_left_and_wasted(self):
        first, goal = drawn(3, 4), drawn(4, 4)
        met = layers(goal)
        bench = Bench(Row(first), Row(goal))
        draw = random.Random(1)
        for number in range(1, 12):
            waggons = bench.do(draw.choice(turnings_of(4))).waggons
            self.assertEqual(bench.left(), met[waggons])
            self.assertEqual(bench.wasted(), number + met[waggons] - met[first])

    def test_nothing_wasted_on_a_fewest_way(self):
        for many in (1, 5, 10):
            first, goal = Row(drawn(5, many)), Row(drawn(6, many))
            bench = Bench(first, goal)
            for turning in fewest(first, goal):
                bench.do(turning)
                self.assertEqual(bench.wasted(), 0)
            self.assertEqual((bench.left(), bench.row), (0, goal))
            bench.do((0, 0))
            self.assertEqual((bench.left(), bench.wasted()), (1, 2))

    def test_drawn_calls(self):
        for seed in range(12):
            draw = random.Random(seed)
            many = draw.choice((1, 2, 3, 5, 11, 24))
            bench, model = made(many, 0, 0)
            for _ in range(40):
                self.draw_call(draw, bench, model)
            self.same(bench, model)

    def draw_call(self, draw, bench, model):
        turnings = turnings_of(len(model.first))
        some = [draw.choice(turnings) for _ in range(draw.randrange(4))]
        way = draw.randrange(6)
        if way == 0:
            model.do([turnings[0]])
            self.assertEqual(bench.do(turnings[0]), Row(model.now()))
        elif way == 1:
            model.do(some)
            self.assertEqual(bench.do_all(draw.choice((list, tuple))(some)), Row(model.now()))
        elif way == 2 and model.stand:
            self.assertEqual(bench.undo(), model.undo())
        elif way == 3 and model.taken:
            self.assertEqual(bench.redo(), model.redo())
        elif way == 4:
            refused(self, errors.BadTurn, "place", len(some), bench.do_all, some + [None])
        elif way == 5:
            with bench.trial() as same:
                same.do(turnings[-1])
        self.assertEqual(bench.turnings(), tuple(model.stand))


class DoingAll(Checks):
    def test_of_list_and_tuple(self):
        for many in LENGTHS[1:]:
            for kind in (list, tuple):
                bench, model = made(many)
                turnings = turnings_of(many)[::3]
                model.do(turnings)
                self.assertEqual(bench.do_all(kind(turnings)), Row(model.now()))
                self.same(bench, model)
                self.assertEqual(redone(bench), [])
        self.assertEqual(Bench(Row([2, 1]), onward(2)).do_all(turnings=[(0, 1), (0, 0)]), Row([1, -2]))

    def test_without_any_it_changes_nothing(self):
        for many in LENGTHS:
            for given in ([], ()):
                bench, model = made(many, 4, 2)
                self.assertEqual(bench.do_all(given), Row(model.now()))
                self.same(bench, model)
                self.assertEqual(len(redone(bench)), 2 if many else 0)

    def test_all_or_none(self):
        for many in LENGTHS:
            bench, model = made(many, 4, 2)
            good = list(turnings_of(many)[:3])
            for value in no_turnings(many):
                for ahead in range(len(good) + 1):
                    refused(self, errors.BadTurn, "place", ahead, bench.do_all, good[:ahead] + [value])
                    refused(self, errors.BadTurn, "place", ahead, bench.do_all, (*good[:ahead], value, None, *good))
            self.same(bench, model)

    def test_no_list_and_no_tuple(self):
        for many in LENGTHS:
            bench, model = made(many, 4, 2)
            for value in no_integers() + [0, 1, HUGE, "00", {(0, 0): 1}, {(0, 0)}, bench]:
                if not isinstance(value, (list, tuple)):
                    refused(self, errors.BadTurn, "place", None, bench.do_all, value)
                    refused(self, errors.BadTurn, "place", None, bench.do_all, turnings=value)
            self.same(bench, model)

    def test_a_pair_is_no_list_of_turnings(self):
        bench, model = made(3)
        refused(self, errors.BadTurn, "place", 0, bench.do_all, (0, 1))
        self.same(bench, model)

    def test_list_is_kept_apart(self):
        bench = Bench(Row([2, 1]), onward(2))
        given = [(0, 0), (0, 1)]
        bench.do_all(given)
        given.append((1, 1))
        given[0] = None
        self.assertEqual(bench.turnings(), ((0, 0), (0, 1)))
        self.assertEqual(len(bench), 2)


class Trials(Checks):
    def change(self, bench):
        """Calls that change all that a bench has."""
        bench.do((0, 0))
        bench.do_all([(0, 0)] * 3)
        bench.undo()
        bench.undo()
        bench.redo()

    def test_the_block_gets_the_bench_itself(self):
        bench, model = made(4)
        with bench.trial() as same:
            self.assertIs(same, bench)
            self.same(bench, model)
        self.same(bench, model)

    def test_the_bench_is_what_it_was(self):
        for many in LENGTHS[1:]:
            for undone in (0, 1, 3):
                bench, model = made(many, 3, undone)
                row = bench.row
                with bench.trial() as same:
                    self.change(same)
                    self.assertEqual(len(same), 3 - undone + 3)
                self.same(bench, model)
                self.assertEqual(bench.row, row)

    def test_all_taken_back_and_done_again_within(self):
        bench, model = made(4, 5, 2)
        with bench.trial():
            bench.redo()
            bench.redo()
            for _ in range(5):
                bench.undo()
            refused(self, errors.NothingLeft, None, None, bench.undo)
        self.same(bench, model)

    def test_an_exception_passes(self):
        for error in (Stop, ValueError, KeyboardInterrupt, errors.NothingLeft, GeneratorExit):
            bench, model = made(4)
            raised = error()
            with self.assertRaises(error) as caught:
                with bench.trial() as same:
                    self.change(same)
                    raise raised
            self.assertIs(caught.exception, raised)
            self.same(bench, model)

    def test_a_call_that_is_refused_within(self):
        bench, model = made(4)
        with self.assertRaises(errors.BadTurn) as caught:
            with bench.trial() as same:
                self.change(same)
                same.do_all([(0, 0), None])
        self.assertEqual(caught.exception.place, 1)
        self.same(bench, model)

    def test_left_by_return_and_by_break(self):
        bench, model = made(4)

        def returned():
            with bench.trial() as same:
                self.change(same)
                return len(same)

        self.assertEqual(returned(), 5)
        self.same(bench, model)
        for _ in range(2):
            with bench.trial() as same:
                self.change(same)
                break
        self.same(bench, model)

    def test_a_trial_within_a_trial(self):
        bench, model = made(4)
        inner = Model(model.first, model.goal)
        inner.stand = model.stand + [(0, 1)]
        with bench.trial() as same:
            same.do((0, 1))
            with same.trial() as again:
                self.assertIs(again, bench)
                self.change(again)
            self.same(bench, inner)
            with self.assertRaises(Stop):
                with same.trial():
                    same.undo()
                    same.undo()
                    raise Stop
            self.same(bench, inner)
        self.same(bench, model)

    def test_an_exception_through_both(self):
        bench, model = made(4)
        with self.assertRaises(Stop):
            with bench.trial():
                bench.do((0, 0))
                with bench.trial():
                    bench.do((1, 1))
                    raise Stop
        self.same(bench, model)

    def test_one_trial_begun_again(self):
        bench, model = made(4)
        trial = bench.trial()
        bench.do((2, 2))
        model.do([(2, 2)])
        with trial:
            bench.do((0, 0))
            with trial:
                bench.do((1, 1))
            self.assertEqual(bench.turnings(), (*model.stand, (0, 0)))
        self.same(bench, model)
        with trial:
            self.change(bench)
        self.same(bench, model)

    def test_without_a_block_it_changes_nothing(self):
        bench, model = made(4)
        bench.trial()
        self.same(bench, model)

    def test_two_benches(self):
        one, model = made(4)
        other, like = made(4)
        with one.trial(), other.trial():
            self.change(one)
            other.undo()
            self.assertEqual(len(other), 1)
        self.same(one, model)
        self.same(other, like)


class Tried(Checks):
    def test_returns_what_the_function_returns(self):
        bench, model = made(4)
        for value in no_integers() + [0, 1, HUGE, Agreeable()]:
            self.assertIs(tried(bench, lambda same, value=value: value), value)
        self.assertEqual(tried(bench, lambda same: same.do((0, 0)).waggons[0]), -model.now()[0])
        self.assertEqual(tried(function=len, bench=bench), len(bench))
        self.same(bench, model)

    def test_function_gets_the_bench_itself(self):
        bench, model = made(4)
        self.assertIs(tried(bench, lambda same: same), bench)
        self.same(bench, model)

    def test_the_bench_is_what_it_was(self):
        bench, model = made(4, 5, 2)
        self.assertIsNone(tried(bench, Trials().change))
        self.same(bench, model)
        self.assertEqual(tried(bench, lambda same: (same.redo(), same.redo(), len(same)))[2], 5)
        self.same(bench, model)

    def test_an_exception_passes(self):
        bench, model = made(4)

        def stopped(same):
            same.do((0, 0))
            raise Stop

        with self.assertRaises(Stop):
            tried(bench, stopped)
        self.same(bench, model)
        refused(self, errors.NothingLeft, None, None, tried, bench, lambda same: [same.undo() for _ in range(9)])
        self.same(bench, model)

    def test_tried_within_tried(self):
        bench, model = made(4)

        def outer(same):
            same.do((0, 1))
            inner = tried(same, lambda again: again.do_all([(0, 0), (1, 1)]))
            return inner, same.row, len(same)

        inner, row, many = tried(bench, outer)
        now = turned_waggons(model.now(), (0, 1))
        self.assertEqual((row.waggons, many), (now, len(model.stand) + 1))
        self.assertEqual(inner.waggons, turned_waggons(turned_waggons(now, (0, 0)), (1, 1)))
        self.same(bench, model)


class Equal(unittest.TestCase):
    def test_whatever_was_undone(self):
        for many in LENGTHS[1:]:
            one, _ = made(many, 3, 1)
            other, _ = made(many, 2, 0)
            self.assertIs(one == other, True)
            self.assertIs(one != other, False)
            other.undo()
            self.assertIs(one == other, False)
            self.assertIs(one != other, True)
            other.redo()
            self.assertIs(one == other, True)
            other.do((0, 0))
            self.assertIs(one == other, False)

    def test_first_goal_and_turnings(self):
        first, goal = Row([2, 1, -3]), onward(3)
        bench = Bench(first, goal)
        self.assertIs(bench == Bench(Row((2, 1, -3)), Row([1, 2, 3])), True)
        for other in (Bench(goal, goal), Bench(first, first), Bench(goal, first), Bench(onward(2), onward(2))):
            self.assertIs(bench == other, False)
            self.assertIs(bench != other, True)

    def test_like_rows_now_are_not_enough(self):
        one, other = Bench(onward(2), onward(2)), Bench(onward(2), onward(2))
        one.do_all([(0, 0), (0, 0)])
        self.assertEqual(one.row, other.row)
        self.assertIs(one == other, False)
        other.do_all([(1, 1), (1, 1)])
        self.assertIs(one == other, False)
        one, other = Bench(onward(2), onward(2)), Bench(onward(2), onward(2))
        one.do_all([(0, 0), (1, 1)])
        other.do_all([(1, 1), (0, 0)])
        self.assertEqual(one.row, other.row)
        self.assertIs(one == other, False)

    def test_like_turnings_from_other_rows_are_not_enough(self):
        one, other = Bench(onward(2), onward(2)), Bench(Row([2, 1]), onward(2))
        for bench in (one, other):
            bench.do((0, 0))
        self.assertEqual(one.turnings(), other.turnings())
        self.assertIs(one == other, False)

    def test_unlike_all_that_is_no_bench(self):
        bench, _ = made(3)
        for value in no_integers() + [0, 1, bench.row, bench.first, bench.turnings(), (bench.first, bench.goal), "x"]:
            if not isinstance(value, Agreeable):
                self.assertIs(bench == value, False)
                self.assertIs(value == bench, False)
                self.assertIs(value != bench, True)
            self.assertIs(bench == value, False)
            self.assertIs(bench != value, True)


class Places(unittest.TestCase):
    def test_methods_stand_in_the_class(self):
        names = "__init__ __len__ __eq__ row turnings do do_all undo redo left wasted trial"
        for name in names.split():
            self.assertIn(name, vars(Bench))
        self.assertIsInstance(vars(Bench)["row"], property)
        for name in ("Bench", "tried"):
            self.assertEqual(getattr(module, name).__module__, "faceabout.bench")
        self.assertEqual({"first", "goal"} - set(vars(Bench(onward(1), onward(1)))), set())

    def test_row_can_not_be_set(self):
        bench, _ = made(3)
        with self.assertRaises(AttributeError):
            bench.row = onward(3)


if __name__ == "__main__":
    unittest.main()
