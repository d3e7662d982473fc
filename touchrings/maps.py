"""Maps: lists of seats; the item at a seat is the seat to which it leads."""

from touchrings.floors import places


def seats(floor):
    """The dict from each place of a floor to its seat."""
    return {place: s for s, place in enumerate(places(floor))}


def step_map(floor):
    """The map of one step of all dancers, without any change."""
    found = []
    for length in floor[0]:
        first = len(found)
        found = found + list(range(first + 1, first + length)) + [first]
    return found


def touch_seats(floor):
    """For each touch of a floor the pair of the seats of its places."""
    at = seats(floor)
    return [(at[x], at[y]) for x, y in floor[1]]


def moves(floor):
    """What the map of a beat is made from: the map of a step, and the seats of the touches."""
    return step_map(floor), touch_seats(floor)


def beat_map(moved, call):
    """The map of a beat with a call."""
    stepped, touched = moved
    changed = list(range(len(stepped)))
    for number in call:
        s, r = touched[number]
        changed[s] = r
        changed[r] = s
    return composed(stepped, changed)


def map_of(moved, plan):
    """The map of a plan."""
    found = list(range(len(moved[0])))
    for step in plan:
        found = composed(found, map_of_step(moved, step))
    return found


def map_of_step(moved, step):
    """The map of a step of a plan."""
    if step[0] == "beat":
        return beat_map(moved, step[1])
    return repeated(map_of(moved, step[2]), step[1])


def composed(first, second):
    """The map that leads as first, and then second, do."""
    return [second[s] for s in first]


def cycle_from(one, s):
    """The seats to which a map leads from a seat, the seat itself first, until it would come again."""
    found = [s]
    while one[found[-1]] != s:
        found.append(one[found[-1]])
    return found


def repeated(one, k):
    """The map that leads as a map does, k times, back if k is below 0."""
    found = [None] * len(one)
    for s in range(len(one)):
        if found[s] is None:
            cycle = cycle_from(one, s)
            for at, r in enumerate(cycle):
                found[r] = cycle[(at + k) % len(cycle)]
    return found
