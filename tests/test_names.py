"""Promise 4 of the third stage and promise 14 of the fourth: arguments by position and by name, in any order."""

import inspect
import types
import unittest
from itertools import permutations

from faceabout import bench, circles, closed, counts, errors, fewest, freed, papers, rings, rows, texts, turns, ways
from faceabout.rows import Row

ROW = Row([3, -1, 2, 5, 4])
OTHER = Row([-2, 1, 3, 4, 5])
WAY = ways.way_at(ROW, OTHER, 3)
CIRCLE = circles.Circle([3, -1, 2, 5, 4])

# Each function, class and method of the interface that takes arguments, with valid ones by name.
CALLS = [
    (errors.BadRow, {"place": 3}),
    (errors.BadTurn, {"place": 3}),
    (errors.BadPlace, {"value": 3}),
    (errors.BadNumber, {"value": 3}),
    (errors.BadText, {"place": 3}),
    (errors.BadWay, {"value": 3}),
    (errors.TooGreat, {"most": 3}),
    (rows.Row, {"waggons": [2, -1]}),
    (ROW.at, {"place": 1}),
    (ROW.place_of, {"number": 1}),
    (rows.onward, {"many": 7}),
    (rows.seen, {"one": ROW, "other": OTHER}),
    (rows.renamed, {"one": ROW, "names": OTHER}),
    (turns.is_turning, {"row": ROW, "value": (1, 4)}),
    (turns.turned, {"row": ROW, "turning": (1, 4)}),
    (turns.run, {"row": ROW, "turnings": [(1, 4), (0, 0)]}),
    (turns.turnings_of, {"many": 3}),
    (turns.turning_between, {"one": ROW, "other": Row([3, -1, -2, 5, 4])}),
    (rings.joints, {"row": ROW}),
    (rings.right_joints, {"row": ROW}),
    (rings.rings, {"row": ROW}),
    (rings.many_rings, {"row": ROW}),
    (rings.change, {"row": ROW, "turning": (1, 1)}),
    (closed.parts, {"row": ROW}),
    (closed.own_joints, {"row": ROW, "part": (3, 6)}),
    (closed.unfaced, {"row": ROW}),
    (closed.chains, {"row": ROW}),
    (closed.is_settled, {"row": ROW, "part": (3, 6)}),
    (fewest.cost, {"row": ROW}),
    (fewest.to_go, {"row": ROW}),
    (fewest.distance, {"one": ROW, "other": OTHER}),
    (fewest.bound, {"one": ROW, "other": OTHER}),
    (fewest.fewest, {"one": ROW, "other": OTHER}),
    (fewest.first_turns, {"one": ROW, "other": OTHER}),
    (papers.paper, {"one": ROW, "other": OTHER}),
    (papers.is_paper, {"one": ROW, "other": OTHER, "value": ("turns", WAY)}),
    (counts.rows_of, {"many": 2}),
    (counts.spread, {"many": 3}),
    (counts.ring_spread, {"many": 3}),
    (counts.farthest, {"many": 3}),
    (counts.farthest_rows, {"many": 3}),
    (ways.count_ways, {"one": ROW, "other": OTHER}),
    (ways.ways, {"one": ROW, "other": OTHER}),
    (ways.way_at, {"one": ROW, "other": OTHER, "number": 3}),
    (ways.way_number, {"one": ROW, "other": OTHER, "value": WAY}),
    (freed.free_distance, {"one": ROW, "other": OTHER}),
    (freed.free_way, {"one": ROW, "other": OTHER}),
    (freed.is_free_way, {"one": ROW, "other": OTHER, "value": freed.free_way(ROW, OTHER)}),
    (circles.Circle, {"waggons": [3, -1, 2]}),
    (CIRCLE.turned_at, {"arc": (3, 1)}),
    (CIRCLE.run, {"arcs": [(3, 1), (2, 2)]}),
    (CIRCLE.distance, {"other": circles.Circle([1, 2, 3, 4, 5])}),
    (CIRCLE.fewest, {"other": circles.Circle([1, 2, 3, 4, 5])}),
    (texts.row_text, {"row": ROW}),
    (texts.turns_text, {"turnings": [(0, 2), (10, 99)]}),
    (texts.read_row, {"text": "+2 -1"}),
    (texts.read_turns, {"text": "0-2, 10-99"}),
    (texts.picture, {"row": ROW}),
    (bench.Bench, {"row": ROW, "goal": OTHER}),
    (bench.tried, {"bench": bench.Bench(ROW, OTHER), "function": lambda same: same.do((0, 3))}),
]
# Those that take none.
WITHOUT = [
    errors.FaceError, errors.OtherLength, errors.NothingLeft, ROW.backs, ROW.framed, ROW.inverse, ROW.backward,
    CIRCLE.rest]
# The methods of a bench, which change it.
OF_BENCH = [("do", {"turning": (0, 3)}), ("do_all", {"turnings": [(0, 3), (1, 1)]})]
OF_BENCH_WITHOUT = ["undo", "redo", "left", "wasted", "turnings", "trial"]


def new_bench():
    """A bench with a turning that stands and one that was taken back."""
    made = bench.Bench(ROW, OTHER)
    made.do_all([(1, 2), (0, 4)])
    made.undo()
    return made


def told(value):
    """What can be compared of what a call returns."""
    if isinstance(value, types.GeneratorType):
        return list(value)
    if isinstance(value, Exception):
        return type(value), vars(value)
    return value


class Names(unittest.TestCase):
    def test_names_are_those_of_the_document(self):
        for call, named in CALLS:
            self.assertEqual(list(inspect.signature(call).parameters), list(named), call)

    def test_in_any_order(self):
        for call, named in CALLS:
            expected = told(call(*named.values()))
            for order in permutations(named):
                self.assertEqual(told(call(**{name: named[name] for name in order})), expected, call)

    def test_by_position_and_then_by_name(self):
        for call, named in CALLS:
            values = list(named.values())
            expected = told(call(*values))
            for many in range(len(values)):
                others = {name: named[name] for name in list(named)[many:][::-1]}
                self.assertEqual(told(call(*values[:many], **others)), expected, call)

    def test_no_other_name_and_no_other_number(self):
        for call, named in CALLS:
            values = list(named.values())
            for given, names in ((values, {"another": 1}), (values + [1], {}), (values[:-1], {}), (values, named)):
                with self.assertRaises(TypeError):
                    told(call(*given, **names))

    def test_without_arguments(self):
        for call in WITHOUT[3:]:
            self.assertEqual(told(call()), told(call()))
            with self.assertRaises(TypeError):
                call(1)
        for made in WITHOUT[:3]:
            self.assertEqual(vars(made()), {})

    def test_methods_of_a_bench(self):
        for name, named in OF_BENCH:
            self.assertEqual(list(inspect.signature(getattr(bench.Bench, name)).parameters), ["self", *named])
            one, other = new_bench(), new_bench()
            self.assertEqual(getattr(one, name)(*named.values()), getattr(other, name)(**named))
            self.assertEqual(one, other)
            self.assertEqual((one.row, one.turnings()), (other.row, other.turnings()))
            for given, names in (((1, 2), {}), ((), {"another": 1}), ((), {})):
                with self.assertRaises(TypeError):
                    getattr(one, name)(*given, **names)
            self.assertEqual(one, other)
        for name in OF_BENCH_WITHOUT:
            self.assertEqual(list(inspect.signature(getattr(bench.Bench, name)).parameters), ["self"])
            getattr(new_bench(), name)()
            with self.assertRaises(TypeError):
                getattr(new_bench(), name)(1)

    def test_all_of_the_interface(self):
        calls = WITHOUT + [call for call, _ in CALLS]
        calls += [getattr(bench.Bench, name) for name in [name for name, _ in OF_BENCH] + OF_BENCH_WITHOUT]
        taken = {(call.__module__, call.__qualname__) for call in calls}
        listed = {
            "errors": "FaceError BadRow BadTurn BadPlace BadNumber OtherLength TooGreat BadText BadWay NothingLeft",
            "rows": "Row Row.at Row.place_of Row.backs Row.framed Row.inverse Row.backward onward seen renamed",
            "turns": "is_turning turned run turnings_of turning_between",
            "rings": "joints right_joints rings many_rings change",
            "closed": "parts own_joints unfaced chains is_settled",
            "fewest": "cost to_go distance bound fewest first_turns",
            "papers": "paper is_paper",
            "counts": "rows_of spread ring_spread farthest farthest_rows",
            "ways": "count_ways ways way_at way_number",
            "freed": "free_distance free_way is_free_way",
            "circles": "Circle Circle.rest Circle.turned_at Circle.run Circle.distance Circle.fewest",
            "texts": "row_text turns_text read_row read_turns picture",
            "bench": "Bench Bench.do Bench.do_all Bench.undo Bench.redo Bench.left Bench.wasted Bench.turnings "
                     "Bench.trial tried",
        }
        expected = {("faceabout." + name, each) for name, names in listed.items() for each in names.split()}
        self.assertEqual(taken, expected)


if __name__ == "__main__":
    unittest.main()
