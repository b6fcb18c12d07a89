"""The errors of the package.

No message shows a field: it may be any value, and of any length.
"""


class FaceError(ValueError):
    """Any argument that is refused."""


class BadRow(FaceError):
    """No row: at this place, or None if it is no list and no tuple."""

    def __init__(self, place):
        FaceError.__init__(self, "these are not the waggons of a row")
        self.place = place


class BadTurn(FaceError):
    """No turning: the item with this number, or None if it is no list and no tuple."""

    def __init__(self, place):
        FaceError.__init__(self, "this is no turning of the row")
        self.place = place


class BadPlace(FaceError):
    """The value is no place."""

    def __init__(self, value):
        FaceError.__init__(self, "this is no place of the row")
        self.value = value


class BadNumber(FaceError):
    """The value is no number that is asked for."""

    def __init__(self, value):
        FaceError.__init__(self, "this is no number that is asked for")
        self.value = value


class OtherLength(FaceError):
    """Two rows that must be equally long are not."""


class BadText(FaceError):
    """No such text goes on at this place; None if it is no text."""

    def __init__(self, place):
        FaceError.__init__(self, "this text can not be read")
        self.place = place


class BadWay(FaceError):
    """The value is no fewest row of turnings."""

    def __init__(self, value):
        FaceError.__init__(self, "this is no fewest row of turnings")
        self.value = value


class NothingLeft(FaceError):
    """Nothing is left to take back, or to do again."""


class TooGreat(OverflowError):
    """More is asked than the most that is done."""

    def __init__(self, most):
        OverflowError.__init__(self, "this is more than the most that is done")
        self.most = most
