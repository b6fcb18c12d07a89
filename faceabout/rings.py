"""Joints of rows, and the rings that they make."""

from faceabout.turns import turned


def joints(row):
    """The two ends at each joint, the left one first."""
    framed = row.framed()
    return tuple([(end_behind(framed[joint]), end_ahead(framed[joint + 1])) for joint in range(len(row) + 1)])


def end_ahead(waggon):
    """The end that a waggon has on its left: its tail if it faces on."""
    return 2 * waggon - 1 if waggon > 0 else -2 * waggon


def end_behind(waggon):
    """The end that a waggon, or the 0 ahead, has on its right: its head if it faces on."""
    return 2 * waggon if waggon >= 0 else -2 * waggon - 1


def wished(end):
    """The end with which an end wishes to be tied."""
    # The head of v has the number 2v, and the tail of v + 1 has 2v + 1.
    return end + 1 if end % 2 == 0 else end - 1


def right_joints(row):
    """An ascending tuple of the numbers of the right joints."""
    framed = row.framed()
    return tuple([joint for joint in range(len(row) + 1) if framed[joint + 1] == framed[joint] + 1])


def rings(row):
    """An ascending tuple of the rings, each an ascending tuple of its joints."""
    beyond = ends_beyond(row)
    passed = set()
    found = []
    for joint, (left, right) in enumerate(joints(row)):
        if joint not in passed:
            ring = ring_from(beyond, left)
            found.append(tuple(sorted(ring)))
            for each in ring:
                passed.add(each)
    # A ring is met at its least joint, and so the rings are ascending as they are found.
    return tuple(found)


def ends_beyond(row):
    """For each end the number of its joint, and the other end there."""
    beyond = {}
    for joint, (left, right) in enumerate(joints(row)):
        beyond[left] = (joint, right)
        beyond[right] = (joint, left)
    return beyond


def ring_from(beyond, start):
    """The joints that are passed from an end on, until one comes back."""
    joint, far = beyond[start]
    ring = [joint]
    end = wished(far)
    while end != start:
        joint, far = beyond[end]
        ring.append(joint)
        end = wished(far)
    return ring


def many_rings(row):
    """How many rings there are."""
    return len(rings(row))


def change(row, turning):
    """How many rings more there are behind a turning."""
    return many_rings(turned(row, turning)) - many_rings(row)
