"""Rows and turnings as texts, and pictures of rows."""

from faceabout.checks import is_stretch
from faceabout.errors import BadText, BadTurn
from faceabout.rings import right_joints
from faceabout.rows import Row

FIGURES = "0123456789"
MOST_WRITTEN = 99


def row_text(row):
    """The waggons of a row with their signs."""
    return " ".join([f"{waggon:+d}" for waggon in row.waggons])


def turns_text(turnings):
    """The text of a list or tuple of turnings, of whatever row."""
    if not isinstance(turnings, (list, tuple)):
        raise BadTurn(None)
    for number, turning in enumerate(turnings):
        if not is_stretch(turning, MOST_WRITTEN):
            raise BadTurn(number)
    return ", ".join([f"{first}-{last}" for first, last in turnings])


def read_row(text):
    """The row that is written in a text."""
    if not isinstance(text, str):
        raise BadText(None)
    waggons = []
    place = 0
    while place < len(text):
        if waggons:
            place = behind_sign(text, place, (" ",))
        end = behind_number(text, behind_sign(text, place, ("+", "-")))
        waggons.append(int(text[place:end]))
        place = end
    return Row(waggons)


def read_turns(text):
    """A tuple of the turnings that are written in a text."""
    if not isinstance(text, str):
        raise BadText(None)
    turnings = []
    place = 0
    while place < len(text):
        if turnings:
            place = behind_sign(text, behind_sign(text, place, (",",)), (" ",))
        turning, place = turning_from(text, place)
        turnings.append(turning)
    return tuple(turnings)


def turning_from(text, place):
    """The turning that is written from a place on, and the place behind it."""
    middle = behind_place(text, place)
    start = behind_sign(text, middle, ("-",))
    end = behind_place(text, start)
    first = int(text[place:middle])
    last = int(text[start:end])
    if last < first:
        raise BadText(end)
    return (first, last), end


def behind_sign(text, place, signs):
    """The place behind one of these signs, which must stand at a place."""
    if text[place:place + 1] not in signs:
        raise BadText(place)
    return place + 1


def behind_number(text, place):
    """The place behind a number of one or two figures, the first of them no 0."""
    if not is_figure(text, place, FIGURES[1:]):
        raise BadText(place)
    return place + 2 if is_figure(text, place + 1, FIGURES) else place + 1


def behind_place(text, place):
    """The place behind such a number, or behind a 0."""
    return place + 1 if text[place:place + 1] == "0" else behind_number(text, place)


def is_figure(text, place, figures):
    """Whether one of these figures stands at a place."""
    return place < len(text) and text[place] in figures


def picture(row):
    """The framed row, with = at each right joint."""
    right = right_joints(row)
    behind = [shown(waggon) for waggon in row.waggons] + [f"{len(row) + 1}"]
    ties = ["=" if joint in right else " " for joint in range(len(row) + 1)]
    return "0" + "".join([tie + waggon for tie, waggon in zip(ties, behind)])


def shown(waggon):
    """A waggon's number, with its head as a tip."""
    return f"[{waggon}>" if waggon > 0 else f"<{-waggon}]"
