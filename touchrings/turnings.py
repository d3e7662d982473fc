"""Turnings: rings called anew and shifted; and floors danced backward."""

from touchrings.errors import BadTurning
from touchrings.floors import floor_of, need_floor, need_place, partners, parts, within
from touchrings.values import is_below, is_order, is_pair


def is_turning(floor, thing):
    """Whether any value is a turning of a floor."""
    need_floor(floor)
    rings = floor[0]
    if not is_pair(thing) or not is_order(thing[0], len(rings)):
        return False
    shifts = thing[1]
    if not isinstance(shifts, tuple) or len(shifts) != len(rings):
        return False
    return all([is_below(shift, length) for shift, length in zip(shifts, rings)])


def need_turning(floor, turning):
    """Raise BadFloor for any value that is no floor, then BadTurning for any that is no turning of it."""
    if not is_turning(floor, turning):
        raise BadTurning(turning)


def led(floor, turning):
    """The floor to which a turning leads a floor."""
    need_turning(floor, turning)
    rings, touches = floor
    lengths = [0] * len(rings)
    for name, length in zip(turning[0], rings):
        lengths[name] = length
    return floor_of(tuple(lengths), [(_called(rings, turning, x), _called(rings, turning, y)) for x, y in touches])


def place_led(floor, turning, place):
    """The place as it is called behind a turning."""
    need_turning(floor, turning)
    need_place(floor, place)
    return _called(floor[0], turning, place)


def _called(rings, turning, place):
    """How a turning of rings calls a place of them."""
    names, shifts = turning
    u, i = place
    return names[u], (i + shifts[u]) % rings[u]


def both(floor, first, second):
    """The turning that leads a floor as first, and then second as a turning of the led floor, do."""
    halfway = led(floor, first)
    need_turning(halfway, second)
    firsts = [_called(floor[0], first, (u, 0)) for u in range(len(floor[0]))]
    return _turning_to([_called(halfway[0], second, place) for place in firsts])


def back(floor, turning):
    """The turning of the led floor that leads everything back."""
    need_turning(floor, turning)
    rings = floor[0]
    starts = [(0, 0)] * len(rings)
    for u, name in enumerate(turning[0]):
        starts[name] = (u, -turning[1][u] % rings[u])
    return _turning_to(starts)


def _turning_to(starts):
    """The turning by which the place 0 of each ring comes to what is told for the ring in starts."""
    return tuple([start[0] for start in starts]), tuple([start[1] for start in starts])


def turning_between(one, other):
    """Any turning that leads one floor to the other, None if there is none."""
    need_floor(one)
    need_floor(other)
    free = list(parts(other))
    starts = [(0, 0)] * len(one[0])
    for lot in parts(one):
        # All parts that are alike to this one are alike to each other, so the first that fits will do.
        fit = _first_fit(within(one, lot), other, free)
        if fit is None:
            return None
        target, turning = fit
        free.remove(target)
        for u, name, shift in zip(lot, turning[0], turning[1]):
            starts[u] = (target[name], shift)
    return None if free else _turning_to(starts)


def _first_fit(part, other, free):
    """The first of the free parts of a floor that is alike to a joined floor, and the turning; None if none is."""
    for target in free:
        turning = _turning_of_joined(part, within(other, target))
        if turning is not None:
            return target, turning
    return None


def _turning_of_joined(one, other):
    """Any turning that leads one joined floor to another one, None if there is none."""
    for start in _first_starts(one, other):
        starts = _spread(one, other, start)
        if starts is not None:
            turning = _turning_to(starts)
            if is_turning(one, turning) and led(one, turning) == other:
                return turning
    return None


def _first_starts(one, other):
    """What the place (0, 0) of a joined floor can come to, if there is a turning at all."""
    if one[1] == ():
        return [(0, 0)]
    # The ring 0 of a joined floor with touches has one, so the first touch begins on it.
    i = one[1][0][0][1]
    length = one[0][0]
    return [(v, (j - i) % length) for v, j in partners(other)]


def _spread(one, other, start):
    """What the places 0 of all rings come to if that of the ring 0 comes to start, and touches to touches.

    None if some touch comes to none; that all of them do is not looked at.
    """
    rings, touches = one
    starts = [None] * len(rings)
    starts[0] = start
    there = partners(other)
    crossings = [*touches, *[(y, x) for x, y in touches]]
    # Each round but the last one reaches one more ring at least.
    for _ in rings:
        for (u, i), (v, j) in crossings:
            if starts[u] is not None and starts[v] is None:
                name, shift = starts[u]
                place = there.get((name, (i + shift) % rings[u]))
                if place is None:
                    return None
                starts[v] = (place[0], (place[1] - j) % rings[v])
    return starts


def backward(floor):
    """The backward floor of a floor."""
    need_floor(floor)
    rings, touches = floor
    return floor_of(rings, [touch_backward(rings, touch) for touch in touches])


def touch_backward(rings, touch):
    """The touch of the backward floor for a touch: the two places that stand for those ahead of its places."""
    x, y = sorted([(u, (1 - i) % rings[u]) for u, i in touch])
    return x, y
