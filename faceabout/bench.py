"""A bench: a row that turnings change, and a goal."""

from faceabout.errors import NothingLeft, OtherLength
from faceabout.fewest import distance
from faceabout.turns import run, turned


class Moment:
    """What a bench is at a moment; it never changes."""

    def __init__(self, here, done, undone):
        self.here = here
        self.done = done
        # The last one was taken back last.
        self.undone = undone


class Bench:
    """A row that turnings change, and a goal."""

    def __init__(self, row, goal):
        if len(row) != len(goal):
            raise OtherLength()
        self.first = row
        self.goal = goal
        self.moment = Moment(row, (), ())

    def __len__(self):
        return len(self.moment.done)

    def __eq__(self, other):
        return (
            isinstance(other, Bench) and self.first == other.first and self.goal == other.goal
            and self.moment.done == other.moment.done)

    @property
    def row(self):
        """The row as it is now."""
        return self.moment.here

    def turnings(self):
        """A tuple of the turnings that stand."""
        return self.moment.done

    def do(self, turning):
        """Does a turning, and returns the new row."""
        self.moment = Moment(turned(self.row, turning), self.moment.done + (turning,), ())
        return self.row

    def do_all(self, turnings):
        """Does the turnings of a list or tuple, all or none, and returns the new row."""
        behind = run(self.row, turnings)
        # Without any turning, what was taken back can still be done again.
        if turnings:
            self.moment = Moment(behind, self.moment.done + tuple(turnings), ())
        return self.row

    def undo(self):
        """Takes back the last turning that stands, and returns it."""
        done = self.moment.done
        if not done:
            raise NothingLeft()
        # Turned twice, a row is as before.
        self.moment = Moment(turned(self.row, done[-1]), done[:-1], self.moment.undone + (done[-1],))
        return done[-1]

    def redo(self):
        """Does the last turning again that was taken back, and returns it."""
        undone = self.moment.undone
        if not undone:
            raise NothingLeft()
        self.moment = Moment(turned(self.row, undone[-1]), self.moment.done + (undone[-1],), undone[:-1])
        return undone[-1]

    def left(self):
        """The fewest turnings from the row as it is now to the goal."""
        return distance(self.row, self.goal)

    def wasted(self):
        """How many turnings that stand are more than needed."""
        return len(self) + self.left() - distance(self.first, self.goal)

    def trial(self):
        """For a block behind which the bench is what it was."""
        return Trial(self)


class Kept:
    """What a bench was when a block began, and what was kept for the block around it."""

    def __init__(self, moment, outer):
        self.moment = moment
        self.outer = outer


class Trial:
    """Gives a block the bench itself, and makes the bench what it was when the block ends."""

    def __init__(self, bench):
        self.bench = bench
        self.kept = None

    def __enter__(self):
        # The same trial may be begun again within itself.
        self.kept = Kept(self.bench.moment, self.kept)
        return self.bench

    def __exit__(self, kind, value, trace):
        self.bench.moment = self.kept.moment
        self.kept = self.kept.outer


def tried(bench, function):
    """Calls a function with the bench in a trial, and returns what it returns."""
    with bench.trial() as same:
        return function(same)
