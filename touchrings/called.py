"""Arrangements that can be called, from one to another."""

from touchrings.errors import BadNumber, TooSoon
from touchrings.floors import need_floor
from touchrings.labels import marks
from touchrings.maps import repeated, step_map
from touchrings.plans import after, is_plan, need_arrangements
from touchrings.remainders import clash, first_clash, joint_of_all
from touchrings.swaps import round_length, swaps, ties
from touchrings.values import is_below, is_from, is_tagged


def shifts(floor, one, other):
    """For each dancer the pair of its shift and the number of its part, None if it is astray."""
    marked = marks(floor)
    ends = dict(zip(other, marked))
    found = [None] * len(one)
    for dancer, (part, label, number) in zip(one, marked):
        end_part, end_label, _ = ends[dancer]
        if end_part == part:
            found[dancer] = ((end_label - label) % number, number)
    return found


def called_rest(floor, one, other):
    """The pair (rest, step) of the numbers of beats of all plans that lead one arrangement to another one, or None."""
    need_arrangements(floor, one, other)
    return joint_of_all(shifts(floor, one, other))


def sure_beat(floor):
    """The number of beats from which on everything that fits can be called."""
    need_floor(floor)
    many = sum(floor[0])
    return round_length(floor) * many * (many - 1) // 2


def judge_called(floor, one, other):
    """A certificate about whether some plan leads one arrangement to another one."""
    need_arrangements(floor, one, other)
    shifted = shifts(floor, one, other)
    if None in shifted:
        return "astray", shifted.index(None)
    told = joint_of_all(shifted)
    if told is None:
        d, e = first_clash(shifted)
        return "unlike", d, e
    rest, _ = told
    steps, beats = _swapped(floor, one, other, rest)
    return "plan", steps + idle((rest - beats) % round_length(floor))


def idle(k):
    """The steps of k beats without calls."""
    if k == 0:
        return ()
    once = ("beat", ())
    return (once,) if k == 1 else (("times", k, (once,)),)


def _swapped(floor, one, other, t):
    """The pair (steps, beats) of all that is called on the way from one arrangement to another one in t beats.

    Beats without calls are to follow until there are t, or as many as differ from t by whole rounds.
    """
    length = round_length(floor)
    ahead = [other[s] for s in repeated(step_map(floor), t)]
    steps = ()
    beats = 0
    for at, number in swaps(ties(floor), one, ahead):
        wait = (at - beats - 1) % length
        steps = steps + idle(wait) + (("beat", (number,)),)
        beats += wait + 1
    return steps, beats


def called_holds(floor, one, other, thing):
    """Whether any value is a certificate about whether some plan leads one arrangement to another one."""
    need_arrangements(floor, one, other)
    if is_tagged(thing, "plan", 2):
        return is_plan(floor, thing[1]) and after(floor, one, thing[1]) == other
    shifted = shifts(floor, one, other)
    if is_tagged(thing, "astray", 2):
        return is_below(thing[1], len(one)) and shifted[thing[1]] is None
    if not is_tagged(thing, "unlike", 3) or not is_below(thing[2], len(one)) or not is_below(thing[1], thing[2]):
        return False
    first, second = shifted[thing[1]], shifted[thing[2]]
    return first is not None and second is not None and clash(first, second)


def plan_at(floor, one, other, t):
    """A plan of t beats that leads one arrangement to another one, None if there is none."""
    need_arrangements(floor, one, other)
    if not is_from(t, 0):
        raise BadNumber(t)
    sure = sure_beat(floor)
    if t < sure:
        raise TooSoon(sure)
    told = joint_of_all(shifts(floor, one, other))
    if told is None or t % told[1] != told[0]:
        return None
    steps, beats = _swapped(floor, one, other, t)
    return steps + idle(t - beats)
