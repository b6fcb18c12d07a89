"""The document's words, done slowly on tuples of waggons.

Nothing of the package is used here, so that the tests have answers of their own.
"""

from functools import lru_cache


def turned_waggons(waggons, turning):
    """Point 11: the waggons behind a turning."""
    first, last = turning
    return waggons[:first] + tuple(-waggon for waggon in waggons[first:last + 1][::-1]) + waggons[last + 1:]


def all_turnings(many):
    return [(first, last) for first in range(many) for last in range(first, many)]


def layers_from(starts, next_ones):
    """All that a walk from these meets, each with the layer in which it is met first."""
    met = {start: 0 for start in starts}
    edge = list(starts)
    while edge:
        nearer, edge = edge, []
        for each in nearer:
            for behind in next_ones(each):
                if behind not in met:
                    met[behind] = met[each] + 1
                    edge.append(behind)
    return met


def layers(start):
    """All rows as long as this one, by a walk over all turnings."""
    turnings = all_turnings(len(start))
    return layers_from([start], lambda waggons: [turned_waggons(waggons, turning) for turning in turnings])


def about(waggons):
    """The waggons, turned about as a whole."""
    return tuple(-waggon for waggon in waggons[::-1])


def layers_freed(start):
    """Point 41: as layers, where a row and that turned about as a whole are in one layer."""
    turnings = all_turnings(len(start))

    def next_ones(waggons):
        behind = [turned_waggons(waggons, turning) for turning in turnings]
        return [each for row in behind for each in (row, about(row))]

    return layers_from([start, about(start)], next_ones)


def stored_waggons(waggons):
    """Point 42: the only one of all rows that go around a circle that begins with waggon 1, facing on."""
    gone = [way[at:] + way[:at] for way in (tuple(waggons), about(tuple(waggons))) for at in range(len(waggons))]
    [found] = {each for each in gone if each[0] == 1}
    return found


def turned_arc(stored, arc):
    """Point 42: the circle that is turned at an arc, waggon by waggon where they stand."""
    first, last = arc
    places = [first]
    while places[-1] != last:
        places.append((places[-1] + 1) % len(stored))
    behind = list(stored)
    for place, other in zip(places, places[::-1]):
        behind[place] = -stored[other]
    return stored_waggons(behind)


def layers_around(start):
    """All circles as long as this one, by a walk over all arcs."""
    arcs = [(first, last) for first in range(len(start)) for last in range(len(start))]
    return layers_from([start], lambda stored: [turned_arc(stored, arc) for arc in arcs])


@lru_cache(maxsize=None)
def walked(many):
    """The layers of a walk from the row onward."""
    return layers(tuple(range(1, many + 1)))


def nearer_by_walking(waggons, met):
    """All turnings that lead to a nearer layer, ascending, each with the waggons behind it."""
    steps = [(turning, turned_waggons(waggons, turning)) for turning in all_turnings(len(waggons))]
    return [(turning, behind) for turning, behind in steps if met[behind] < met[waggons]]


def ways_by_walking(waggons, met):
    """Point 40: all fewest rows of turnings to the row from which the layers were walked, ascending."""
    if met[waggons] == 0:
        return [()]
    return [
        (turning, *way) for turning, behind in nearer_by_walking(waggons, met)
        for way in ways_by_walking(behind, met)]


def counts_by_walking(met):
    """How many rows of turnings are fewest from each row to the one from which the layers were walked."""
    counts = {}
    for waggons in sorted(met, key=met.get):
        counts[waggons] = sum(counts[behind] for _, behind in nearer_by_walking(waggons, met)) or 1
    return counts


def framed(waggons):
    return (0, *waggons, len(waggons) + 1)


def is_right(waggons, joint):
    left, right = framed(waggons)[joint:joint + 2]
    return right - left == 1


def named_ends(waggons):
    """Point 14: the ends of a framed row from left to right, as ("tail" or "head", number), joint by joint."""
    ends = []
    for number in framed(waggons):
        if number < 0:
            ends += [("head", -number), ("tail", -number)]
        else:
            ends += [("tail", number), ("head", number)]
    ends = ends[1:-1]
    return [(ends[at], ends[at + 1]) for at in range(0, len(ends), 2)]


def joints_by_name(waggons):
    """The joints, with the numbers that the interface gives to the ends."""
    numbered = []
    for pair in named_ends(waggons):
        numbered.append(tuple(2 * number - (kind == "tail") for kind, number in pair))
    return tuple(numbered)


def rings_by_joining(waggons):
    """The rings: joints are joined whenever an end of one wishes to be tied with an end of the other."""
    pairs = named_ends(waggons)
    ring_of = list(range(len(pairs)))
    joint_of = {end: joint for joint, pair in enumerate(pairs) for end in pair}
    for number in range(len(waggons) + 1):
        keep, drop = ring_of[joint_of["head", number]], ring_of[joint_of["tail", number + 1]]
        ring_of = [keep if ring == drop else ring for ring in ring_of]
    return tuple(sorted(
        tuple(joint for joint, ring in enumerate(ring_of) if ring == kept) for kept in set(ring_of)))


def closed_by_looking(waggons):
    """Point 15: all closed stretches."""
    whole = framed(waggons)
    found = []
    for a in range(len(whole)):
        for b in range(a + 1, len(whole)):
            numbers = sorted(abs(number) for number in whole[a:b + 1])
            v, w = numbers[0], numbers[-1]
            if numbers == list(range(v, w + 1)) and (whole[a], whole[b]) in [(v, w), (-w, -v)]:
                found.append((a, b))
    return found


@lru_cache(maxsize=None)
def parts_by_looking(waggons):
    closed = closed_by_looking(waggons)
    return tuple(
        (a, b) for a, b in closed
        if not any((a, c) in closed and (c, b) in closed for c in range(a + 1, b)))


@lru_cache(maxsize=None)
def own_by_looking(waggons, part):
    """Point 16: the joints for which this part is the shortest one that holds both waggons."""
    parts = parts_by_looking(waggons)
    own = []
    for joint in range(len(waggons) + 1):
        holding = [(b - a, (a, b)) for a, b in parts if a <= joint and joint + 1 <= b]
        if min(holding)[1] == part:
            own.append(joint)
    return tuple(own)


@lru_cache(maxsize=None)
def unfaced_by_looking(waggons):
    whole = framed(waggons)
    found = []
    for part in parts_by_looking(waggons):
        wrong = [joint for joint in own_by_looking(waggons, part) if not is_right(waggons, joint)]
        ways = {whole[joint + step] < 0 for joint in wrong for step in (0, 1)}
        if len(ways) == 1:
            found.append(part)
    return tuple(found)


@lru_cache(maxsize=None)
def chains_by_looking(waggons):
    """Point 17: from each part that no other one ends before, as far as parts go on."""
    parts = parts_by_looking(waggons)
    found = []
    for part in parts:
        if not any(b == part[0] for _, b in parts):
            chain = [part]
            while any(a == chain[-1][1] for a, _ in parts):
                chain += [(a, b) for a, b in parts if a == chain[-1][1]]
            found.append(tuple(chain))
    return tuple(sorted(found))


def ties_by_looking(waggons):
    """Point 17: the ties of the tree, chain first; parts and chains are told from each other by a word."""
    parts = parts_by_looking(waggons)
    ties = []
    for chain in chains_by_looking(waggons):
        ties += [(("chain", chain), ("part", part)) for part in chain]
        around = [(b - a, (a, b)) for a, b in parts if a < chain[0][0] and chain[-1][1] < b]
        if around:
            ties.append((("chain", chain), ("part", min(around)[1])))
    return ties


def path_between(ties, start, goal):
    """The nodes of the only path between two nodes of a tree."""
    paths = [[start]]
    for path in paths:
        if path[-1] == goal:
            return path
        for tie in ties:
            if path[-1] in tie:
                other = tie[tie.index(path[-1]) == 0]
                if other not in path:
                    paths.append(path + [other])
    raise AssertionError("the tree is not connected")


def core_by_looking(waggons):
    """Point 18: the nodes of the core with their neighbors: all that lies between two unfaced parts."""
    ties = ties_by_looking(waggons)
    unfaced = [("part", part) for part in unfaced_by_looking(waggons)]
    nodes = {node for one in unfaced for other in unfaced for node in path_between(ties, one, other)}
    return {
        node: {other for tie in ties if node in tie for other in tie if other != node and other in nodes}
        for node in nodes}


def cost_by_looking(waggons):
    """Point 18, with each branch as a path from its end to the nearest node with three neighbors or more."""
    core = core_by_looking(waggons)
    unfaced = [("part", part) for part in unfaced_by_looking(waggons)]
    ends = [node for node in core if len(core[node]) < 2]
    forks = [node for node in core if len(core[node]) > 2]
    ties = ties_by_looking(waggons)
    short = False
    for end in ends:
        branches = [path_between(ties, end, fork)[:-1] for fork in forks] or [list(core)]
        branch = min(branches, key=len)
        short = short or sum(node in unfaced for node in branch) == 1
    return len(ends) if len(ends) % 2 == 0 or short else len(ends) + 1
