"""Plans: rows of beats with calls, and what they make of arrangements."""

from touchrings.errors import BadArrangement, BadNumber, BadPlan, TooMany
from touchrings.floors import need_floor, need_place, places, seat
from touchrings.maps import led_by, map_of, map_of_step, moves, repeated
from touchrings.turnings import backward, touch_backward
from touchrings.values import are_below, is_below, is_from, is_order, is_tagged

MOST_UNROLLED = 2000


def is_arrangement(floor, thing):
    """Whether any value is an arrangement of a floor."""
    need_floor(floor)
    return is_order(thing, sum(floor[0]))


def need_arrangement(floor, arrangement):
    """Raise BadFloor for any value that is no floor, then BadArrangement for any that is no arrangement of it."""
    if not is_arrangement(floor, arrangement):
        raise BadArrangement(arrangement)


def need_arrangements(floor, one, other):
    """Raise BadFloor, then BadArrangement for the first of two values that is no arrangement."""
    need_arrangement(floor, one)
    need_arrangement(floor, other)


def is_plan(floor, thing):
    """Whether any value is a plan of a floor."""
    need_floor(floor)
    return are_steps(len(floor[1]), 0, thing)


def are_steps(touches, skips, thing):
    """Whether any value is a plan, perhaps a skip plan, of a floor with that many touches and skips."""
    return isinstance(thing, tuple) and all([_is_step(touches, skips, step) for step in thing])


def _is_step(touches, skips, thing):
    """Whether any value is a step of such a plan."""
    if is_tagged(thing, "beat", 2):
        return are_below(thing[1], touches)
    if is_tagged(thing, "skip", 2):
        return is_below(thing[1], skips)
    return is_tagged(thing, "times", 3) and is_from(thing[1], 0) and are_steps(touches, skips, thing[2])


def need_plan(floor, plan):
    """Raise BadFloor for any value that is no floor, then BadPlan for any that is no plan of it."""
    if not is_plan(floor, plan):
        raise BadPlan(plan)


def home(floor):
    """The home arrangement of a floor."""
    need_floor(floor)
    return tuple(range(sum(floor[0])))


def beats_of(floor, plan):
    """How many beats a plan takes in all."""
    need_plan(floor, plan)
    return _beats(plan)


def _beats(plan):
    """How many beats a plan takes in all."""
    return sum([_beats_of_step(step) for step in plan])


def _beats_of_step(step):
    """How many beats a step of a plan takes in all."""
    return 1 if step[0] == "beat" else step[1] * _beats(step[2])


def changes_of(floor, plan):
    """How many touches are called in all by a plan."""
    need_plan(floor, plan)
    return _changes(plan)


def _changes(plan):
    """How many touches are called in all by a plan."""
    return sum([len(step[1]) if step[0] == "beat" else step[1] * _changes(step[2]) for step in plan])


def after(floor, arrangement, plan):
    """The arrangement behind a plan."""
    need_arrangement(floor, arrangement)
    return led_by(arrangement, plan_map(floor, plan))


def before(floor, arrangement, plan):
    """The arrangement ahead of a plan, if this one is behind it."""
    need_arrangement(floor, arrangement)
    return tuple([arrangement[s] for s in plan_map(floor, plan)])


def plan_map(floor, plan):
    """For each seat the seat at which the dancer who stood there ahead of a plan stands behind it."""
    need_plan(floor, plan)
    return tuple(map_of(moves(floor), plan))


def stands_at(floor, plan, place, t):
    """The place at which the dancer who began at a place stands behind the first t beats of a plan."""
    need_plan(floor, plan)
    need_place(floor, place)
    if not is_below(t, _beats(plan) + 1):
        raise BadNumber(t)
    return places(floor)[_seat_behind(moves(floor), plan, seat(floor, place), t)]


def _seat_behind(moved, plan, s, t):
    """The seat at which the dancer who began at a seat stands behind the first t beats of a plan."""
    for step in plan:
        if t == 0:
            return s
        beats = _beats_of_step(step)
        if beats > t:
            once = step[2]
            s = repeated(map_of(moved, once), t // _beats(once))[s]
            return _seat_behind(moved, once, s, t % _beats(once))
        s = map_of_step(moved, step)[s]
        t -= beats
    return s


def unrolled(floor, plan):
    """The tuple of the calls of all beats of a plan."""
    need_plan(floor, plan)
    if _beats(plan) > MOST_UNROLLED:
        raise TooMany(MOST_UNROLLED)
    return tuple(_calls(plan))


def _calls(plan):
    """The calls of all beats of a plan."""
    found = []
    for step in plan:
        if step[0] == "beat":
            found.append(step[1])
        elif _beats_of_step(step) > 0:
            # A plan without beats may be done far too often to be written down.
            found.extend(_calls(step[2]) * step[1])
    return found


def plan_back(floor, plan):
    """The plan of the backward floor that takes a plan back, its last step first."""
    need_plan(floor, plan)
    touches = backward(floor)[1]
    names = [touches.index(touch_backward(floor[0], touch)) for touch in floor[1]]
    return _turned(names, plan)


def _turned(names, plan):
    """A plan with its last step first, and each touch called by its new name."""
    return tuple([_step_turned(names, step) for step in plan[::-1]])


def _step_turned(names, step):
    """A step of a plan that is turned."""
    if step[0] == "beat":
        return "beat", tuple(sorted([names[number] for number in step[1]]))
    return "times", step[1], _turned(names, step[2])
