"""Values and rows that several tests ask for."""

from itertools import permutations, product

from faceabout import errors, rows

HUGE = 10 ** 999


class Agreeable:
    """A value that says that it is equal to everything."""

    def __eq__(self, other):
        return True


def no_integers():
    """Values of every kind that are no integers."""
    return [
        True, False, None, "", "1", "0", "one", b"", b"1", [], [0], [1], (), (0,), (1,), (0, 1),
        [0, 1], (0, 1, 2), ((0, 1),), [[1]], {}, {0: 1}, {1}, frozenset(), range(2), object(), Agreeable(),
        rows.Row([]), rows.Row([1]), rows.Row, rows.onward, errors.FaceError(), errors.BadNumber(1),
        int, [rows.Row([1])], iter([1]),
    ]


def integers_outside(least, most):
    """Integers that are not from least to most, the nearest ones and huge ones."""
    return [least - 1, most + 1, least - 2, most + 2, -HUGE, HUGE, -HUGE - 1, HUGE - 1]


def all_waggons(many):
    """The waggons of all rows of so many waggons, as tuples."""
    found = []
    for order in permutations(range(1, many + 1)):
        for ways in product((1, -1), repeat=many):
            found.append(tuple(way * number for way, number in zip(ways, order)))
    return found


def small_rows():
    """All rows of 0 to 3 waggons."""
    return [rows.Row(waggons) for many in range(4) for waggons in all_waggons(many)]


def long_waggons(many):
    """The waggons of a well mixed row, some facing back."""
    step = next(step for step in (7, 5, 11, 1) if many % step or step == 1)
    numbers = [place * step % many + 1 for place in range(many)]
    return [-number if number % 3 == 0 else number for number in numbers]
