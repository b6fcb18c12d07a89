"""Values, rows and checks that several tests ask for."""

from itertools import permutations, product

from faceabout import errors, rows

HUGE = 10 ** 999


class Agreeable:
    """A value that says that it is equal to everything."""

    def __eq__(self, other):
        return True


def no_integers():
    """Values of every kind that are no integers."""
    return [
        True, False, None, "", "1", "0", "one", b"", b"1", [], [0], [1], (), (0,), (1,), (0, 1),
        [0, 1], (0, 1, 2), ((0, 1),), [[1]], {}, {0: 1}, {1}, frozenset(), range(2), object(), Agreeable(),
        rows.Row([]), rows.Row([1]), rows.Row, rows.onward, errors.FaceError(), errors.BadNumber(1),
        int, [rows.Row([1])], iter([1]),
    ]


def integers_outside(least, most):
    """Integers that are not from least to most, the nearest ones and huge ones."""
    return [least - 1, most + 1, least - 2, most + 2, -HUGE, HUGE, -HUGE - 1, HUGE - 1]


def all_waggons(many):
    """The waggons of all rows of so many waggons, as tuples."""
    found = []
    for order in permutations(range(1, many + 1)):
        for ways in product((1, -1), repeat=many):
            found.append(tuple(way * number for way, number in zip(ways, order)))
    return found


def small_rows():
    """All rows of 0 to 3 waggons."""
    return [rows.Row(waggons) for many in range(4) for waggons in all_waggons(many)]


def long_waggons(many):
    """The waggons of a well mixed row, some facing back."""
    step = next(step for step in (7, 5, 11, 1) if many % step or step == 1)
    numbers = [place * step % many + 1 for place in range(many)]
    return [-number if number % 3 == 0 else number for number in numbers]


def no_turnings(many):
    """Values of every kind that are no turnings of rows of so many waggons."""
    found = [value for value in no_integers() if value != (0, 1) or many < 2]
    found += [Agreeable(), 0, 1, -1, HUGE, -HUGE, "0-1"]
    found += [(), (0,), (0, 0, 0), [0, 0], [0, 1], ([0, 0],), ((0, 0),), {0: 0, 1: 1}]
    found += [((0, 0), (0, 0)), ([0], [0]), (None, None), ("0", "0"), (0, None), (None, 0), (True, 0), (0, True)]
    found += [(False, False), (False, 0), (0, False), (False, True), (1, True), (0, Agreeable()), (Agreeable(), 0)]
    found += [(many, many), (0, many), (-1, 0), (-1, -1), (-1, many), (many - 1, many), (-many, 0), (1, 0)]
    found += [(many - 1, many - 2), (0, HUGE), (-HUGE, 0), (HUGE, HUGE), (-HUGE, -HUGE), (-HUGE, HUGE), (HUGE, 0)]
    return found


def refused(case, error, field, value, call, *told, **named):
    """Checks that a call raises just this error, with the very value in its field."""
    with case.assertRaises(error) as caught:
        call(*told, **named)
    case.assertIs(type(caught.exception), error)
    if field is not None:
        got = getattr(caught.exception, field)
        if type(value) is int:
            case.assertIs(type(got), int)
            case.assertEqual(got, value)
        else:
            case.assertIs(got, value)


def no_parts(row, known):
    """Values of every kind that are none of the known parts of a row."""
    behind = len(row) + 1
    found = [value for value in no_integers() if not isinstance(value, tuple)] + [0, 1, -1, HUGE, -HUGE, "0-1"]
    found += [(), (0,), (0, 1, 2), (None, None), (0, None), ("0", "1"), (0, Agreeable()), (Agreeable(), 1)]
    found += [(Agreeable(), Agreeable()), ((0, 1),), ([0, 1],), (0, HUGE), (-HUGE, HUGE), (HUGE, HUGE), (-HUGE, 0)]
    found += [(0, behind + 1), (-1, behind), (behind, behind + 1), (-1, 0), (-1, 1), (-2, -1), known, list(known)]
    for first, last in known:
        found += [[first, last], (last, first), (first, last, last), (first, [last]), ((first, last),), {first: last}]
        found += [f"{first}-{last}", (first, str(last)), (str(first), last), (-first - 1, last), (first, None)]
        found += [(bool(first), last)] if first < 2 else []
        found += [(first, True)] if last == 1 else []
    found += [(first, last) for first in range(behind + 1) for last in range(behind + 1) if (first, last) not in known]
    return found


def plain(value):
    """Whether a value is an integer, or a tuple of integers and such tuples: no list, no True or False."""
    return type(value) is int or type(value) is tuple and all(plain(item) for item in value)
