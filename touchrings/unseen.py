"""Floors unseen: what arrangements, seen one beat behind the other, tell of the touches."""

from touchrings.errors import BadPromise, BadRings, BadSights, Unfit
from touchrings.floors import are_rings, floor_of, is_floor, is_place_on, partners, places, seat
from touchrings.labels import is_free, marks
from touchrings.maps import step_map
from touchrings.plans import is_arrangement
from touchrings.values import is_below, is_from, is_tagged


def _need_sights(rings, sights):
    """Raise BadRings for any value that is no rings, then BadSights for any that is no sights of them."""
    if not are_rings(rings):
        raise BadRings(rings)
    if not isinstance(sights, tuple) or len(sights) < 2:
        raise BadSights(sights)
    if not all([is_arrangement((rings, ()), sight) for sight in sights]):
        raise BadSights(sights)


def _ends(rings, sights):
    """For each beat the list that tells for each seat at which one the dancer stands whose step led to it."""
    stepped = step_map((rings, ()))
    found = []
    for one, other in zip(sights, sights[1:]):
        ends = [0] * len(stepped)
        for dancer, s in zip(one, stepped):
            ends[s] = other.index(dancer)
        found.append(ends)
    return found


def _barred(rings, sights):
    """A certificate of what bars all floors from fitting, None if some floor fits."""
    beats = _ends(rings, sights)
    spots = places((rings, ()))
    for t, ends in enumerate(beats, start=1):
        for s, r in enumerate(ends):
            if ends[r] != s:
                return "strange", t, spots[s]
    first = {}
    for t, ends in enumerate(beats, start=1):
        for s, r in enumerate(ends):
            if s != r:
                seen, other = first.setdefault(s, (t, r))
                if other != r:
                    return "two", seen, t, spots[s]
    return None


def _seen(rings, sights):
    """The floor with just the touches seen, if some floor fits."""
    spots = places((rings, ()))
    pairs = {(spots[s], spots[r]): True for ends in _ends(rings, sights) for s, r in enumerate(ends) if s < r}
    return floor_of(rings, list(pairs))


def judge_sights(rings, sights):
    """A certificate about which floors fit what was seen."""
    _need_sights(rings, sights)
    told = _barred(rings, sights)
    return ("touches", _seen(rings, sights)[1]) if told is None else told


def sights_hold(rings, sights, thing):
    """Whether any value is a certificate about which floors fit what was seen."""
    _need_sights(rings, sights)
    if is_tagged(thing, "touches", 2):
        fits = _barred(rings, sights) is None and is_floor((rings, thing[1]))
        return fits and thing[1] == _seen(rings, sights)[1]
    beats = _ends(rings, sights)
    if is_tagged(thing, "strange", 3):
        return _is_beat(beats, thing[1]) and is_place_on(rings, thing[2]) and _is_strange(rings, beats, thing)
    if not is_tagged(thing, "two", 4) or not _is_beat(beats, thing[1]) or not _is_beat(beats, thing[2]):
        return False
    return thing[1] < thing[2] and is_place_on(rings, thing[3]) and _are_two(rings, beats, thing)


def _is_beat(beats, thing):
    """Whether any value is the number of a beat, counted from 1."""
    return is_from(thing, 1) and is_below(thing, len(beats) + 1)


def _is_strange(rings, beats, told):
    """Whether behind the told beat a dancer stands where it does not change with the one whose step led there."""
    _, t, x = told
    s = seat((rings, ()), x)
    ends = beats[t - 1]
    return ends[ends[s]] != s


def _are_two(rings, beats, told):
    """Whether behind both told beats two dancers change at the told place, whose other places are unlike."""
    _, t, later, x = told
    s = seat((rings, ()), x)
    one, other = beats[t - 1], beats[later - 1]
    if one[s] == s or other[s] == s or one[one[s]] != s or other[other[s]] != s:
        return False
    return one[s] != other[s]


def least_floor(rings, sights):
    """The floor with the fewest touches that fits what was seen."""
    _need_sights(rings, sights)
    told = _barred(rings, sights)
    if told is not None:
        raise Unfit(told)
    return _seen(rings, sights)


def sure(rings, sights, claim):
    """True if a claim holds for each floor that fits what was seen, False if for none, None if for some."""
    _need_sights(rings, sights)
    if not _is_claim(rings, claim):
        raise BadPromise(claim)
    least = least_floor(rings, sights)
    # More touches take no touch away and part no class, so a claim holds for all floors if it holds for the least
    # one, and for some floor if it holds for one to which nothing can be added.
    if _holds(least, claim):
        return True
    taken = partners(least)
    for pairs in _pairings([place for place in places(least) if place not in taken]):
        if _holds(floor_of(rings, [*least[1], *pairs]), claim):
            return None
    return False


def _is_claim(rings, thing):
    """Whether any value is a claim of rings."""
    if is_tagged(thing, "free", 1):
        return True
    if not is_tagged(thing, "touch", 3) and not is_tagged(thing, "tied", 3):
        return False
    word, x, y = thing
    if not is_place_on(rings, x) or not is_place_on(rings, y):
        return False
    return x < y if word == "touch" else x != y


def _holds(floor, claim):
    """Whether a claim holds for a floor."""
    if claim[0] == "free":
        return is_free(floor)
    _, x, y = claim
    if claim[0] == "touch":
        return (x, y) in floor[1]
    marked = marks(floor)
    return marked[seat(floor, x)] == marked[seat(floor, y)]


def _pairings(spots):
    """All ways to put places two by two, at most one being left."""
    if len(spots) < 2:
        return [()]
    first, *others = spots
    found = _pairings(others) if len(spots) % 2 == 1 else []
    for other in others:
        found = found + [((first, other), *pairs) for pairs in _pairings([one for one in others if one != other])]
    return found
