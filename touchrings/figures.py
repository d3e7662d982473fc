"""Figures: plans that are done again and again."""

from math import lcm

from touchrings.errors import BadPairs
from touchrings.floors import is_place_on, need_places, need_two_places
from touchrings.maps import cycle_from, order, seats, touch_seats
from touchrings.plans import need_plan, plan_map
from touchrings.remainders import clash, first_clash, joint_of_all
from touchrings.values import is_below, is_from, is_pair, is_tagged


def order_of(floor, plan):
    """The least number of times from 1 on behind which each dancer is where it began."""
    return order(plan_map(floor, plan))


def times_at(floor, plan, place, other):
    """The pair (rest, step) of the times behind which the dancer from a place stands at the other one, or None."""
    need_plan(floor, plan)
    need_places(floor, place, other)
    return _pairs_of(floor, plan, ((place, other),))[0]


def _pairs_of(floor, plan, wishes):
    """For each wish the pair (rest, step) of the times that keep it, None if there are none."""
    found = plan_map(floor, plan)
    at = seats(floor)
    pairs = []
    for x, y in wishes:
        cycle = cycle_from(found, at[x])
        pairs.append((cycle.index(at[y]), len(cycle)) if at[y] in cycle else None)
    return pairs


def times_all(floor, plan, wishes):
    """The pair (rest, step) of the times that keep all wishes, None if there are none."""
    _need_wishes(floor, plan, wishes)
    return joint_of_all(_pairs_of(floor, plan, wishes))


def _need_wishes(floor, plan, wishes):
    """Raise BadFloor, BadPlan, then BadPairs for any value that is no wishes."""
    need_plan(floor, plan)
    if not isinstance(wishes, tuple) or wishes == () or not all([_is_wish(floor[0], wish) for wish in wishes]):
        raise BadPairs(wishes)
    if len(set([x for x, _ in wishes])) != len(wishes):
        raise BadPairs(wishes)


def _is_wish(rings, thing):
    """Whether any value is a pair of places of rings."""
    return is_pair(thing) and is_place_on(rings, thing[0]) and is_place_on(rings, thing[1])


def judge_times(floor, plan, wishes):
    """A certificate about when all wishes of a figure are kept, or about what bars it."""
    kept = times_all(floor, plan, wishes)
    if kept is not None:
        return "times", kept[0]
    pairs = _pairs_of(floor, plan, wishes)
    if None in pairs:
        return "never", pairs.index(None)
    i, j = first_clash(pairs)
    return "clash", i, j


def times_hold(floor, plan, wishes, thing):
    """Whether any value is a certificate about a figure and its wishes."""
    _need_wishes(floor, plan, wishes)
    pairs = _pairs_of(floor, plan, wishes)
    many = len(wishes)
    if is_tagged(thing, "times", 2):
        return is_from(thing[1], 0) and all([_is_told(pair, thing[1]) for pair in pairs])
    if is_tagged(thing, "never", 2):
        return is_below(thing[1], many) and pairs[thing[1]] is None
    if not is_tagged(thing, "clash", 3) or not is_below(thing[2], many) or not is_below(thing[1], thing[2]):
        return False
    one, other = pairs[thing[1]], pairs[thing[2]]
    return one is not None and other is not None and clash(one, other)


def _is_told(pair, n):
    """Whether a pair (rest, step) tells a number; None tells none."""
    return pair is not None and n % pair[1] == pair[0]


def meetings(floor, plan, place, other):
    """The pair (rests, step) of the times behind which the dancers from two places meet."""
    need_plan(floor, plan)
    need_two_places(floor, place, other)
    found = plan_map(floor, plan)
    at = seats(floor)
    first, second = cycle_from(found, at[place]), cycle_from(found, at[other])
    touched = touch_seats(floor)
    met = []
    for n in range(lcm(len(first), len(second))):
        s, r = first[n % len(first)], second[n % len(second)]
        met.append((s, r) in touched or (r, s) in touched)
    return _least_step(met)


def _least_step(met):
    """The pair (rests, step) of the numbers at which a row that goes on and on is true, with the least such step."""
    step = 1
    while met != met[:step] * (len(met) // step):
        step += 1
    return tuple([rest for rest in range(step) if met[rest]]), step
