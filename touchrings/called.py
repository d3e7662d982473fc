"""Arrangements that can be called, from one to another."""

from touchrings.errors import BadNumber, TooSoon
from touchrings.floors import need_floor
from touchrings.labels import marks
from touchrings.maps import repeated, step_map
from touchrings.plans import after, is_plan, need_arrangement
from touchrings.remainders import clash, first_clash, joint_of_all
from touchrings.swaps import round_length, swaps
from touchrings.values import is_below, is_from, is_tagged


def _need_both(floor, one, other):
    """Raise BadFloor, then BadArrangement for the first of two values that is no arrangement."""
    need_arrangement(floor, one)
    need_arrangement(floor, other)


def _shifts(floor, one, other):
    """For each dancer the pair of its shift and the number of its part, None if it is astray."""
    marked = marks(floor)
    ends = dict(zip(other, marked))
    found = [None] * len(one)
    for dancer, (part, label, number) in zip(one, marked):
        end_part, end_label, _ = ends[dancer]
        if end_part == part:
            found[dancer] = ((end_label - label) % number, number)
    return found


def called_rest(floor, one, other):
    """The pair (rest, step) of the numbers of beats of all plans that lead one arrangement to another one, or None."""
    _need_both(floor, one, other)
    return joint_of_all(_shifts(floor, one, other))


def sure_beat(floor):
    """The number of beats from which on everything that fits can be called."""
    need_floor(floor)
    many = sum(floor[0])
    return round_length(floor) * many * (many - 1) // 2


def judge_called(floor, one, other):
    """A certificate about whether some plan leads one arrangement to another one."""
    _need_both(floor, one, other)
    shifts = _shifts(floor, one, other)
    if None in shifts:
        return "astray", shifts.index(None)
    told = joint_of_all(shifts)
    if told is None:
        d, e = first_clash(shifts)
        return "unlike", d, e
    rest, _ = told
    steps, beats = _swapped(floor, one, other, rest)
    return "plan", steps + _idle((rest - beats) % round_length(floor))


def _idle(k):
    """The steps of k beats without calls."""
    if k == 0:
        return ()
    once = ("beat", ())
    return (once,) if k == 1 else (("times", k, (once,)),)


def _swapped(floor, one, other, t):
    """The pair (steps, beats) of all that is called on the way from one arrangement to another one in t beats.

    Beats without calls are to follow until there are t, or as many as differ from t by whole rounds.
    """
    length = round_length(floor)
    ahead = [other[s] for s in repeated(step_map(floor), t)]
    steps = ()
    beats = 0
    for at, number in swaps(floor, one, ahead):
        wait = (at - beats - 1) % length
        steps = steps + _idle(wait) + (("beat", (number,)),)
        beats += wait + 1
    return steps, beats


def called_holds(floor, one, other, thing):
    """Whether any value is a certificate about whether some plan leads one arrangement to another one."""
    _need_both(floor, one, other)
    if is_tagged(thing, "plan", 2):
        return is_plan(floor, thing[1]) and after(floor, one, thing[1]) == other
    shifts = _shifts(floor, one, other)
    if is_tagged(thing, "astray", 2):
        return is_below(thing[1], len(one)) and shifts[thing[1]] is None
    if not is_tagged(thing, "unlike", 3) or not is_below(thing[2], len(one)) or not is_below(thing[1], thing[2]):
        return False
    first, second = shifts[thing[1]], shifts[thing[2]]
    return first is not None and second is not None and clash(first, second)


def plan_at(floor, one, other, t):
    """A plan of t beats that leads one arrangement to another one, None if there is none."""
    _need_both(floor, one, other)
    if not is_from(t, 0):
        raise BadNumber(t)
    sure = sure_beat(floor)
    if t < sure:
        raise TooSoon(sure)
    told = joint_of_all(_shifts(floor, one, other))
    if told is None or t % told[1] != told[0]:
        return None
    steps, beats = _swapped(floor, one, other, t)
    return steps + _idle(t - beats)
