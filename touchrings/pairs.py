"""Two dancers: whether they can meet, whether they can be kept apart, and when they meet at the latest."""

from touchrings.couples import ground, is_meeting, later, latest, meeting_plan
from touchrings.floors import is_place_on, need_two_places, partners, places, seat
from touchrings.labels import labelling_to, marks
from touchrings.maps import beat_map, composed, cycles, moves, repeated
from touchrings.plans import beats_of, is_plan, plan_map
from touchrings.values import is_ascending, is_from, is_pair, is_tagged
from touchrings.ways import label_step, labels_bar


def can_meet(floor, place, other):
    """Whether some plan leads the dancers from two places to a meeting."""
    need_two_places(floor, place, other)
    marked = marks(floor)
    # A part without a touch is one ring, and no two places of it have one label.
    return marked[seat(floor, place)] == marked[seat(floor, other)]


def first_meeting(floor, place, other):
    """The least number of beats behind which the dancers from two places can meet, None if they cannot."""
    need_two_places(floor, place, other)
    plan = meeting_plan(floor, place, other)
    return None if plan is None else len(plan)


def judge_meeting(floor, place, other):
    """A certificate about whether the dancers from two places can meet."""
    if can_meet(floor, place, other):
        return "plan", meeting_plan(floor, place, other)
    step = label_step(floor, place, other)
    if step is None:
        return ("parts",)
    return "labels", step[1], labelling_to(floor, step[1])


def meeting_holds(floor, place, other, thing):
    """Whether any value is a certificate about whether the dancers from two places can meet."""
    need_two_places(floor, place, other)
    if is_tagged(thing, "plan", 2):
        return is_plan(floor, thing[1]) and meet_behind(floor, place, other, thing[1])
    step = label_step(floor, place, other)
    if is_tagged(thing, "parts", 1):
        return step is None
    if not is_tagged(thing, "labels", 3) or step is None:
        return False
    return labels_bar(floor, place, other, 0, thing[1], thing[2])


def meet_behind(floor, place, other, plan):
    """Whether the dancers from two places meet behind a plan."""
    led = plan_map(floor, plan)
    spots = places(floor)
    return partners(floor).get(spots[led[seat(floor, place)]]) == spots[led[seat(floor, other)]]


def latest_meeting(floor, place, other):
    """The number of beats behind which dancers from two places have met at the latest, None if they need not meet."""
    need_two_places(floor, place, other)
    return latest(floor).get((place, other))


def judge_apart(floor, place, other):
    """A certificate about whether the dancers from two places can be kept from meeting for ever."""
    need_two_places(floor, place, other)
    ranks = latest(floor)
    if (place, other) in ranks:
        # Where they meet already there is no next beat to tell of.
        return "ranks", tuple(sorted([(couple, rank) for couple, rank in ranks.items() if rank > 0]))
    return _loop(floor, ranks, (place, other))


def _loop(floor, ranks, start):
    """The certificate of calls that keep two dancers apart, from a couple that has no rank."""
    grounds = ground(floor)
    first_at = {start: 0}
    calls = []
    couple = start
    # Each call but the last one leads to a couple that is new.
    while len(calls) < len(first_at):
        couple, call = [(one, call) for one, call in later(grounds, couple) if one not in ranks][0]
        calls.append(call)
        first_at.setdefault(couple, len(calls))
    beats = tuple([("beat", call) for call in calls])
    at = first_at[couple]
    return "loop", beats[:at], beats[at:]


def apart_holds(floor, place, other, thing):
    """Whether any value is a certificate about whether the dancers from two places can be kept from meeting."""
    need_two_places(floor, place, other)
    if is_tagged(thing, "ranks", 2):
        return _ranks_hold(floor, (place, other), thing[1])
    if not is_tagged(thing, "loop", 3) or not is_plan(floor, thing[1]) or not is_plan(floor, thing[2]):
        return False
    if beats_of(floor, thing[2]) == 0 or partners(floor).get(place) == other:
        return False
    many = sum(floor[0])
    # Behind as many times as there are couples, at most, they stand as they stood before.
    whole = (*thing[1], ("times", many * many, thing[2]))
    _, met = _met_in(moves(floor), whole)
    return not met[seat(floor, place) * many + seat(floor, other)]


def _met_in(moved, plan):
    """The map of a plan, and for each two seats whether the dancers from there meet behind a beat of it.

    Two seats s and r of a floor of n are told at the position s * n + r, also if they are one.
    """
    many = len(moved[0])
    led = list(range(many))
    met = [False] * (many * many)
    for step in plan:
        then, meets = _met_in_step(moved, step)
        met = [known or meets[two] for known, two in zip(met, _both_led(led))]
        led = composed(led, then)
    return led, met


def _both_led(led):
    """The map of two seats, told as above, by the map of one."""
    return [s * len(led) + r for s in led for r in led]


def _met_in_step(moved, step):
    """The same for a step of a plan."""
    if step[0] == "beat":
        led = beat_map(moved, step[1])
        meets = [False] * (len(led) * len(led))
        for s, r in moved[1]:
            meets[s * len(led) + r] = True
            meets[r * len(led) + s] = True
        return led, [meets[two] for two in _both_led(led)]
    led, met = _met_in(moved, step[2])
    return repeated(led, step[1]), _met_again(_both_led(led), met, step[1])


def _met_again(led, met, k):
    """For each two seats whether the dancers from there meet if a plan is done k times, by its map of two seats."""
    found = [False] * len(led)
    for cycle in cycles(led):
        # How many times the plan is done ahead of the one in which they meet; k if that is too late. The cycle is
        # gone through backward twice, so that the ends of it are known to its beginning.
        ahead = k
        for two in cycle[::-1] * 2:
            ahead = 0 if met[two] else min(ahead + 1, k)
            found[two] = ahead < k
    return found


def _ranks_hold(floor, couple, thing):
    """Whether any value is rows by which the dancers of a couple meet whatever is called."""
    if not isinstance(thing, tuple) or not all([_is_row(floor[0], row) for row in thing]) or not is_ascending(thing):
        return False
    ranks = {told: rank for told, rank in thing}
    if len(ranks) != len(thing):
        return False
    grounds = ground(floor)
    if couple not in ranks and not is_meeting(grounds, couple):
        return False
    return all([_falls(grounds, ranks, told) for told in ranks])


def _is_row(rings, thing):
    """Whether any value is a pair of a couple of places of rings and a rank."""
    if not is_pair(thing) or not is_from(thing[1], 0) or not is_pair(thing[0]):
        return False
    x, y = thing[0]
    return is_place_on(rings, x) and is_place_on(rings, y) and x != y


def _falls(grounds, ranks, couple):
    """Whether two dancers at a told couple meet behind the next beat, or stand at a told couple with a lesser rank."""
    for other, _ in later(grounds, couple):
        if not is_meeting(grounds, other) and (other not in ranks or ranks[other] >= ranks[couple]):
            return False
    return True
