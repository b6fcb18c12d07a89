"""How few turnings lead from a row to another one, and which ones."""

from faceabout.closed import chains, parts, unfaced
from faceabout.errors import TooGreat
from faceabout.rings import many_rings
from faceabout.rows import seen
from faceabout.turns import turned, turnings_of

MOST_LED = 10


def tree(row):
    """The neighbors of each part and each chain in the tree, by part or chain."""
    known = parts(row)
    neighbors = {node: [] for node in known + chains(row)}
    for chain in chains(row):
        holder = holder_of(known, chain)
        tied = chain if holder is None else chain + (holder,)
        for part in tied:
            neighbors[chain].append(part)
            neighbors[part].append(chain)
    return neighbors


def holder_of(known, chain):
    """The shortest of these parts that holds a chain within itself, None if there is none."""
    first = chain[0][0]
    last = chain[-1][1]
    holders = [part for part in known if part[0] < first and last < part[1]]
    return min(holders, key=length, default=None)


def length(part):
    """How many joints a part is long."""
    return part[1] - part[0]


def core(row):
    """The neighbors of each node in the least connected piece with all unfaced parts."""
    needed = unfaced(row)
    piece = tree(row)
    spare = [node for node in ends(piece) if node not in needed]
    while spare:
        piece = without(piece, spare)
        spare = [node for node in ends(piece) if node not in needed]
    return piece


def ends(piece):
    """The nodes with one neighbor or none."""
    return [node for node in piece if len(piece[node]) <= 1]


def without(piece, gone):
    """The piece without some of its nodes."""
    kept = [node for node in piece if node not in gone]
    return {node: [other for other in piece[node] if other in kept] for node in kept}


def branch(piece, end):
    """The nodes from an end on, up to the first one with three neighbors, which is left out."""
    passed = []
    ahead = [end]
    while ahead and len(piece[ahead[0]]) < 3:
        node = ahead[0]
        passed.append(node)
        ahead = [other for other in piece[node] if other not in passed]
    return passed


def cost(row):
    """How many turnings more than by its rings alone a row needs."""
    needed = unfaced(row)
    if not needed:
        return 0
    piece = core(row)
    many = len(ends(piece))
    alone = [end for end in ends(piece) if is_alone(branch(piece, end), needed)]
    return many if many % 2 == 0 or alone else many + 1


def is_alone(nodes, needed):
    """Whether just one of these nodes is an unfaced part."""
    return len([node for node in nodes if node in needed]) == 1


def rings_lack(row):
    """How many rings more the row onward has."""
    return len(row) + 1 - many_rings(row)


def to_go(row):
    """The fewest turnings that lead to the row onward."""
    return rings_lack(row) + cost(row)


def distance(one, other):
    """The fewest turnings that lead from the one to the other."""
    return to_go(seen(one, other))


def bound(one, other):
    """n + 1 less the rings of the row one, seen from other."""
    return rings_lack(seen(one, other))


def seen_within(one, other, most):
    """The row one, seen from other, if it has at most so many waggons."""
    row = seen(one, other)
    if len(row) > most:
        raise TooGreat(most)
    return row


def leads_nearer(row, turning, left):
    """Whether fewer turnings than so many are left behind a turning."""
    behind = turned(row, turning)
    # The rings alone refuse most turnings, and are told sooner than the cost.
    return rings_lack(behind) < left and to_go(behind) < left


def nearer_turns(row):
    """An ascending tuple of all turnings behind which fewer are left to the row onward."""
    left = to_go(row)
    return tuple([turning for turning in turnings_of(len(row)) if leads_nearer(row, turning, left)])


def fewest(one, other):
    """A tuple of as few turnings as can be that leads from the one to the other."""
    # Turnings turn places, so that the same ones lead the row that is seen to the row onward.
    return turnings_onward(seen_within(one, other, MOST_LED))


def turnings_onward(row):
    """A tuple of as few turnings as can be that leads to the row onward."""
    now = row
    found = []
    for left in range(to_go(row), 0, -1):
        turning = first_nearer(now, left)
        found.append(turning)
        now = turned(now, turning)
    return tuple(found)


def first_nearer(row, left):
    """The first turning behind which fewer than so many are left, None if there is none."""
    for turning in turnings_of(len(row)):
        if leads_nearer(row, turning, left):
            return turning
    return None


def first_turns(one, other):
    """An ascending tuple of all turnings with which a fewest row of turnings can begin."""
    return nearer_turns(seen_within(one, other, MOST_LED))
