"""Maps: lists of seats; the item at a seat is the seat to which it leads."""

from math import lcm

from touchrings.floors import places


def seats(floor):
    """The dict from each place of a floor to its seat."""
    return {place: s for s, place in enumerate(places(floor))}


def step_map(floor):
    """The map of one step of all dancers, without any change."""
    found = []
    for length in floor[0]:
        first = len(found)
        found = found + list(range(first + 1, first + length)) + [first]
    return found


def touch_seats(floor):
    """For each touch of a floor the pair of the seats of its places."""
    at = seats(floor)
    return [(at[x], at[y]) for x, y in floor[1]]


def moves(floor, skips=()):
    """What the maps of plans are made from: the map of a step, the seats of the touches, the maps of the skips."""
    return step_map(floor), touch_seats(floor), [_skip_map(floor, u, r) for u, r in skips]


def _skip_map(floor, u, r):
    """The map by which all dancers of one ring step on that many times."""
    at = seats(floor)
    return [at[(v, (i + r) % floor[0][v])] if v == u else s for (v, i), s in at.items()]


def beat_map(moved, call):
    """The map of a beat with a call."""
    stepped, touched, _ = moved
    changed = list(range(len(stepped)))
    for number in call:
        s, r = touched[number]
        changed[s] = r
        changed[r] = s
    return composed(stepped, changed)


def map_of(moved, plan):
    """The map of a plan."""
    found = list(range(len(moved[0])))
    for step in plan:
        found = composed(found, map_of_step(moved, step))
    return found


def map_of_step(moved, step):
    """The map of a step of a plan."""
    if step[0] == "beat":
        return beat_map(moved, step[1])
    if step[0] == "skip":
        return moved[2][step[1]]
    return repeated(map_of(moved, step[2]), step[1])


def composed(first, second):
    """The map that leads as first, and then second, do."""
    return [second[s] for s in first]


def cycle_from(one, s):
    """The seats to which a map leads from a seat, the seat itself first, until it would come again."""
    found = [s]
    while one[found[-1]] != s:
        found.append(one[found[-1]])
    return found


def cycles(one):
    """The cycles of a map, each from its least seat on, in the order of these."""
    seen = set()
    found = []
    for s in range(len(one)):
        if s not in seen:
            cycle = cycle_from(one, s)
            found.append(cycle)
            for r in cycle:
                seen.add(r)
    return found


def order(one):
    """The least number of times from 1 on behind which a map leads each seat to itself."""
    found = 1
    for cycle in cycles(one):
        found = lcm(found, len(cycle))
    return found


def repeated(one, k):
    """The map that leads as a map does, k times, back if k is below 0."""
    found = [0] * len(one)
    for cycle in cycles(one):
        for at, s in enumerate(cycle):
            found[s] = cycle[(at + k) % len(cycle)]
    return found


def led_by(items, one):
    """The tuple of items by seats, each led from its seat by a map."""
    found = [0] * len(one)
    for item, s in zip(items, one):
        found[s] = item
    return tuple(found)
