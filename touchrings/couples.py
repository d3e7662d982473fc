"""Couples: pairs of unlike places of two dancers, and the couples at which they can stand one beat later."""

from touchrings.floors import partners, places


def ground(floor):
    """What couples step by: the rings, the partners, and the number of the touch of each place that is in one."""
    numbers = {place: number for number, touch in enumerate(floor[1]) for place in touch}
    return floor[0], partners(floor), numbers


def couples(floor):
    """All couples of a floor."""
    spots = places(floor)
    return [(x, y) for x in spots for y in spots if x != y]


def is_meeting(grounds, couple):
    """Whether two dancers meet at a couple."""
    x, y = couple
    return grounds[1].get(x) == y


def later(grounds, couple):
    """The couples at which two dancers can stand behind the next beat, each with a call that does it.

    If they meet there, the call does not matter, and just one couple is told.
    """
    rings, _, _ = grounds
    x, y = [(u, (i + 1) % rings[u]) for u, i in couple]
    if is_meeting(grounds, (x, y)):
        return [((x, y), ())]
    ends = [(first, second) for first in _ends(grounds, x) for second in _ends(grounds, y)]
    return [((s, r), tuple(sorted(call + other))) for (s, call), (r, other) in ends]


def _ends(grounds, place):
    """Where a dancer whose step led to a place can stand, each with a call that does it."""
    _, pairs, numbers = grounds
    if place not in pairs:
        return [(place, ())]
    return [(place, ()), (pairs[place], (numbers[place],))]


def reached(grounds, start):
    """The couples to which two dancers can come, nearest first, each with the pair of the one ahead and the call."""
    found = {start: None}
    newest = [start]
    while newest != []:
        newer = []
        for couple in newest:
            for other, call in later(grounds, couple):
                if other not in found:
                    found[other] = (couple, call)
                    newer.append(other)
        newest = newer
    return found


def meeting_plan(floor, place, other):
    """A plan of the fewest single beats behind which dancers from two places meet, None if they cannot."""
    grounds = ground(floor)
    found = reached(grounds, (place, other))
    for couple in found:
        if is_meeting(grounds, couple):
            return _traced(found, couple)
    return None


def _traced(found, couple):
    """The plan of the calls by which a couple was reached."""
    calls = []
    while found[couple] is not None:
        couple, call = found[couple]
        calls.append(("beat", call))
    return tuple(calls[::-1])


def latest(floor):
    """For each couple from which two dancers meet whatever is called, the least number of beats that is enough."""
    grounds = ground(floor)
    graph = {couple: [other for other, _ in later(grounds, couple)] for couple in couples(floor)}
    found = {couple: 0 for couple in graph if is_meeting(grounds, couple)}
    newest = list(found)
    beats = 0
    while newest != []:
        beats += 1
        newest = [couple for couple in graph if couple not in found and all([one in found for one in graph[couple]])]
        for couple in newest:
            found[couple] = beats
    return found
