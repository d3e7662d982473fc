"""Floors: rings of places, some of which touch."""

from touchrings.errors import BadFloor, BadLot, BadNumber, BadPlace, BadTouch
from touchrings.values import are_below, is_ascending, is_below, is_from, is_pair, is_whole

MOST_RINGS = 40


def are_rings(thing):
    """Whether any value is rings: the lengths of one to forty of them."""
    if not isinstance(thing, tuple) or not 1 <= len(thing) <= MOST_RINGS:
        return False
    return all([is_from(length, 1) for length in thing])


def is_floor(thing):
    """Whether any value is a floor."""
    if not is_pair(thing) or not are_rings(thing[0]) or not isinstance(thing[1], tuple):
        return False
    rings, touches = thing
    # Only what is known to be pairs of integers is compared and put into a set.
    if not all([_is_touch(rings, touch) for touch in touches]):
        return False
    touched = [place for touch in touches for place in touch]
    return is_ascending(touches) and len(set(touched)) == len(touched)


def is_place(floor, thing):
    """Whether any value is a place of a floor."""
    need_floor(floor)
    return is_place_on(floor[0], thing)


def is_place_on(rings, thing):
    """Whether any value is a place of rings."""
    return is_pair(thing) and is_below(thing[0], len(rings)) and is_below(thing[1], rings[thing[0]])


def _is_touch(rings, thing):
    """Whether any value is a touch of two places of rings."""
    if not is_pair(thing) or not is_place_on(rings, thing[0]) or not is_place_on(rings, thing[1]):
        return False
    return thing[0] < thing[1]


def need_floor(floor):
    """Raise BadFloor for any value that is no floor."""
    if not is_floor(floor):
        raise BadFloor(floor)


def need_place(floor, place):
    """Raise BadFloor for any value that is no floor, then BadPlace for any that is no place of it."""
    if not is_place(floor, place):
        raise BadPlace(place)


def need_places(floor, place, other):
    """Raise BadFloor for any value that is no floor, then BadPlace for the first of two that is no place of it."""
    need_place(floor, place)
    need_place(floor, other)


def need_two_places(floor, place, other):
    """Raise BadFloor, then BadPlace for the first of two that is no place, then for the other one if both are one."""
    need_places(floor, place, other)
    if place == other:
        raise BadPlace(other)


def floor_of(rings, pairs):
    """The floor with these rings whose touches are pairs of places, told in any order."""
    return rings, tuple(sorted([(min(x, y), max(x, y)) for x, y in pairs]))


def partners(floor):
    """The dict from each place in a touch to its partner."""
    found = {}
    for x, y in floor[1]:
        found[x] = y
        found[y] = x
    return found


def places(floor):
    """The ascending tuple of all places of a floor."""
    need_floor(floor)
    return tuple([(u, i) for u, length in enumerate(floor[0]) for i in range(length)])


def seat(floor, place):
    """The position of a place among all places of a floor."""
    need_place(floor, place)
    u, i = place
    return sum(floor[0][:u]) + i


def behind(floor, place, k):
    """The place to which a dancer comes by stepping on k times, back if k is below 0."""
    need_place(floor, place)
    if not is_whole(k):
        raise BadNumber(k)
    u, i = place
    return u, (i + k) % floor[0][u]


def partner(floor, place):
    """The other place of the touch of a place, None if it is in no touch."""
    need_place(floor, place)
    return partners(floor).get(place)


def parts(floor):
    """The ascending tuple of the parts of a floor, each a lot of rings."""
    need_floor(floor)
    rings, touches = floor
    # The head of a ring is the least ring that is known to be joined with it.
    heads = list(range(len(rings)))
    for x, y in touches:
        low, high = sorted([heads[x[0]], heads[y[0]]])
        heads = [low if head == high else head for head in heads]
    return tuple([_headed(heads, least) for least in sorted(set(heads))])


def _headed(heads, least):
    """The lot of the rings whose head is the ring least."""
    return tuple([u for u, head in enumerate(heads) if head == least])


def is_joined(floor):
    """Whether a floor has one part."""
    return len(parts(floor)) == 1


def within(floor, lot):
    """The floor within a lot of rings other than ()."""
    need_floor(floor)
    rings, touches = floor
    if not are_below(lot, len(rings)) or lot == ():
        raise BadLot(lot)
    names = {u: name for name, u in enumerate(lot)}
    kept = [((names[u], i), (names[v], j)) for (u, i), (v, j) in touches if u in names and v in names]
    return floor_of(tuple([rings[u] for u in lot]), kept)


def beside(one, other):
    """The floor of two floors beside each other."""
    need_floor(one)
    need_floor(other)
    if len(one[0]) + len(other[0]) > MOST_RINGS:
        raise BadFloor(other)
    first = len(one[0])
    moved = [((first + u, i), (first + v, j)) for (u, i), (v, j) in other[1]]
    return floor_of(one[0] + other[0], [*one[1], *moved])


def with_touch(floor, x, y):
    """The floor with one more touch of two places, told in either order."""
    need_places(floor, x, y)
    rings, touches = floor
    taken = partners(floor)
    if x == y or x in taken or y in taken:
        raise BadTouch((x, y))
    return floor_of(rings, [*touches, (x, y)])


def without_touch(floor, number):
    """The floor without the touch with a number."""
    need_floor(floor)
    rings, touches = floor
    if not is_below(number, len(touches)):
        raise BadNumber(number)
    return rings, touches[:number] + touches[number + 1:]
