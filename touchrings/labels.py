"""Labels: what tells places apart whatever is called."""

from math import gcd, lcm

from touchrings.errors import BadNumber, BadWay, NotJoined
from touchrings.floors import is_joined, is_place, need_place, partners, parts, places
from touchrings.heights import gaps, heights, rounds, sum_of
from touchrings.maps import step_map, touch_seats
from touchrings.values import is_below, is_from, is_pair, is_tagged, is_whole

MOST_LENGTH = 10 ** 30


def part_numbers(floor):
    """The numbers of the floors within the parts of a floor."""
    lots = parts(floor)
    rings, touches = floor
    gap_of = list(zip(touches, gaps(floor)))
    numbers = []
    for lot in lots:
        spoilt = [gap for (x, _), gap in gap_of if x[0] in lot]
        numbers.append(divisor([rings[u] for u in lot] + spoilt))
    return tuple(numbers)


def step_of(floor):
    """The step of a floor: the least common multiple of its part numbers."""
    found = 1
    for number in part_numbers(floor):
        found = lcm(found, number)
    return found


def divisor(numbers):
    """The greatest common divisor of numbers, 0 if all are 0."""
    found = 0
    for number in numbers:
        found = gcd(found, number)
    return found


def marks(floor):
    """For each seat of a floor the triple of the position of its part, its label, and the number of the part."""
    lots, numbers, high = parts(floor), part_numbers(floor), heights(floor)
    part_of = {u: p for p, lot in enumerate(lots) for u in lot}
    return [(part_of[u], (high[u] + i) % numbers[part_of[u]], numbers[part_of[u]]) for u, i in places(floor)]


def labels(floor):
    """The labels of a floor by seats."""
    return tuple([label for _, label, _ in marks(floor)])


def labelling_to(floor, m):
    """The labelling to m that keeps each part of a floor whose number m divides."""
    return tuple([label % m for label in labels(floor)])


def classes(floor):
    """The ascending tuple of all classes of a floor, each an ascending tuple of places."""
    found = {}
    for place, (p, label, _) in zip(places(floor), marks(floor)):
        found.setdefault((p, label), []).append(place)
    return tuple(sorted([tuple(lot) for lot in found.values()]))


def is_free(floor):
    """Whether a floor is joined and has the number 1."""
    return part_numbers(floor) == (1,)


def keeps(floor, lot, m, thing):
    """Whether any value is a labelling to m that keeps the rings of a lot that is made of parts."""
    rings, touches = floor
    if not isinstance(thing, tuple) or len(thing) != sum(rings) or not all([is_below(label, m) for label in thing]):
        return False
    stepped = step_map(floor)
    for s, (u, _) in enumerate(places(floor)):
        if u in lot and (thing[s] + 1) % m != thing[stepped[s]]:
            return False
    return all([thing[s] == thing[r] for (x, _), (s, r) in zip(touches, touch_seats(floor)) if x[0] in lot])


def keeps_all(floor, m, thing):
    """Whether any value is a labelling to m that keeps a floor."""
    return keeps(floor, tuple(range(len(floor[0]))), m, thing)


def walked(floor, place, walk):
    """The place to which a walk leads from a place."""
    need_place(floor, place)
    end = _end_of_walk(floor, place, walk)
    if end is None:
        raise BadWay(walk)
    return end


def _end_of_walk(floor, place, thing):
    """The place to which any value leads from a place as a walk, None if it is no walk from there."""
    if not isinstance(thing, tuple):
        return None
    pairs = partners(floor)
    u, i = place
    for item in thing:
        if is_whole(item) and item != 0:
            i = (i + item) % floor[0][u]
        elif item == "touch" and (u, i) in pairs:
            u, i = pairs[(u, i)]
        else:
            return None
    return u, i


def _is_round(floor, place, walk):
    """Whether any two values are a place and a round from there."""
    return is_place(floor, place) and _end_of_walk(floor, place, walk) == place


def _need_joined(floor):
    """Raise BadFloor for any value that is no floor, then NotJoined for a floor that is not joined."""
    if not is_joined(floor):
        raise NotJoined()


def _need_number(floor, m):
    """Raise BadFloor, NotJoined, then BadNumber for any value that is no integer from 1 on."""
    _need_joined(floor)
    if not is_from(m, 1):
        raise BadNumber(m)


def judge_labels(floor, m):
    """A certificate about a joined floor and a number m: a labelling to m, or a round that bars it."""
    _need_number(floor, m)
    for place, walk in rounds(floor):
        if sum_of(walk) % m != 0:
            return "round", place, walk
    high = heights(floor)
    return "labels", tuple([(high[u] + i) % m for u, i in places(floor)])


def labels_hold(floor, m, thing):
    """Whether any value is a certificate about a joined floor and a number m."""
    _need_number(floor, m)
    if is_tagged(thing, "labels", 2):
        return keeps_all(floor, m, thing[1])
    return is_tagged(thing, "round", 3) and _is_round(floor, thing[1], thing[2]) and sum_of(thing[2]) % m != 0


def judge_number(floor):
    """A certificate of the number of a joined floor."""
    _need_joined(floor)
    return "number", part_numbers(floor)[0], labels(floor), tuple(rounds(floor))


def number_holds(floor, thing):
    """Whether any value is a certificate of the number of a joined floor."""
    _need_joined(floor)
    if not is_tagged(thing, "number", 4):
        return False
    number, labelling, told = thing[1], thing[2], thing[3]
    if not is_from(number, 1) or not keeps_all(floor, number, labelling) or not isinstance(told, tuple):
        return False
    if not all([is_pair(pair) and _is_round(floor, pair[0], pair[1]) for pair in told]):
        return False
    return divisor([sum_of(walk) for _, walk in told]) == number


def inner_number(floor):
    """The greatest common divisor of the sums of the rounds that never pass the end of a ring, 0 if all are 0."""
    _need_joined(floor)
    return divisor(gaps(floor))


def lengths_for(floor, m):
    """Lengths with which a joined floor, lengthened, has the number m; None if there are none."""
    _need_number(floor, m)
    inner = inner_number(floor)
    if inner % m != 0:
        return None
    first, *others = [-(-length // m) * m for length in floor[0]]
    bound = divisor([inner, *others])
    if bound == 0 and first != m:
        return None
    # Some multiple of m has no other divisor in common with bound, so this comes to an end.
    while gcd(bound, first) != m:
        first += m
    lengths = (first, *others)
    return lengths if max(lengths) <= MOST_LENGTH else None
