"""Closed stretches of framed rows: parts, and chains of parts."""

from faceabout.checks import is_stretch
from faceabout.rings import right_joints


def parts(row):
    """An ascending tuple of all parts, each a pair of framed places."""
    framed = row.framed()
    found = []
    for first in range(len(framed)):
        last = shortest_end(framed, first)
        if last is not None:
            found.append((first, last))
    return tuple(found)


def shortest_end(framed, first):
    """Where the shortest closed stretch from a place on ends, None if there is none."""
    # The shortest one is a part, and it is the only one from there on: where a longer one
    # begins with it, what is left of the longer one is closed, too.
    least = greatest = abs(framed[first])
    for last in range(first + 1, len(framed)):
        least = min(least, abs(framed[last]))
        greatest = max(greatest, abs(framed[last]))
        ends = (framed[first], framed[last])
        if greatest - least == last - first and ends in ((least, greatest), (-greatest, -least)):
            return last
    return None


def owned(row):
    """The own joints of each part, ascending, by part."""
    own = {part: [] for part in parts(row)}
    owners = [None] * (len(row) + 1)
    for first, last in own:
        # Parts that share a joint lie within each other, and the later one is the shorter one.
        owners[first:last] = [(first, last)] * (last - first)
    for joint, part in enumerate(owners):
        own[part].append(joint)
    return own


def own_joints(row, part):
    """An ascending tuple of a part's own joints; the empty tuple for a value that is no part."""
    if not is_stretch(part, len(row) + 1):
        return ()
    return tuple(owned(row).get(part, []))


def is_settled(row, part):
    """Whether all own joints of a part are right."""
    right = right_joints(row)
    return all([joint in right for joint in own_joints(row, part)])


def unfaced(row):
    """An ascending tuple of the unfaced parts."""
    own = owned(row)
    right = right_joints(row)
    found = []
    for part in own:
        wrong = [joint for joint in own[part] if joint not in right]
        if wrong and face_alike(row.framed(), wrong):
            found.append(part)
    return tuple(found)


def face_alike(framed, wrong):
    """Whether the waggons at all of these joints face on, or all face back."""
    on = [framed[place] >= 0 for joint in wrong for place in (joint, joint + 1)]
    return all(on) or not any(on)


def chains(row):
    """An ascending tuple of the chains."""
    # The chains that are known so far, by the places where they end.
    known = {}
    for part in parts(row):
        first, last = part
        known[last] = known.pop(first, ()) + (part,)
    return tuple(sorted(list(known.values())))
