"""Guises: what is seen of an arrangement if dancers of one kind are not told apart."""

from math import factorial, lcm

from touchrings.called import judge_called
from touchrings.errors import BadKinds
from touchrings.floors import need_floor
from touchrings.labels import marks, part_numbers, step_of
from touchrings.maps import led_by
from touchrings.plans import home, is_plan, plan_map
from touchrings.values import is_below, is_tagged

MANY_KINDS = 10


def _need_guise(floor, guise):
    """Raise BadFloor for any value that is no floor, then BadKinds for any that is no guise of it."""
    need_floor(floor)
    if not isinstance(guise, tuple) or len(guise) != sum(floor[0]):
        raise BadKinds(guise)
    if not all([is_below(kind, MANY_KINDS) for kind in guise]):
        raise BadKinds(guise)


def _need_guises(floor, one, other):
    """Raise BadFloor, then BadKinds for the first of two values that is no guise."""
    _need_guise(floor, one)
    _need_guise(floor, other)


def guise_after(floor, guise, plan):
    """The guise to which a plan leads a guise."""
    _need_guise(floor, guise)
    return led_by(guise, plan_map(floor, plan))


def _tallies(floor, guise):
    """For each part of a floor a list that tells, for each label of it, how many of each kind its class has."""
    found = [[[0] * MANY_KINDS for _ in range(number)] for number in part_numbers(floor)]
    for (p, label, _), kind in zip(marks(floor), guise):
        found[p][label][kind] += 1
    return found


def _later(tally, s):
    """The tally of a part, as it is s beats later; s is at most how many labels there are."""
    return tally[len(tally) - s:] + tally[:len(tally) - s]


def kind_rests(floor, one, other):
    """The ascending tuple of the remainders by the step of the beats of plans that lead one guise to another one."""
    _need_guises(floor, one, other)
    pairs = list(zip(_tallies(floor, one), _tallies(floor, other)))
    fits = [[_later(tally, s) == goal for s in range(len(tally))] for tally, goal in pairs]
    return tuple([s for s in range(step_of(floor)) if all([fit[s % len(fit)] for fit in fits])])


def many_guises(floor, guise):
    """To how many guises a guise can be led, itself too."""
    _need_guise(floor, guise)
    tallies = _tallies(floor, guise)
    # Two numbers of beats give the same tallies if they differ by a multiple of this, and have no guise in common
    # otherwise.
    again = 1
    many = 1
    for tally in tallies:
        again = lcm(again, min([s for s in range(1, len(tally) + 1) if _later(tally, s) == tally]))
        for kinds in tally:
            many *= _orders(kinds)
    return again * many


def _orders(kinds):
    """In how many orders so many of each kind can stand."""
    found = factorial(sum(kinds))
    for many in kinds:
        found = found // factorial(many)
    return found


def judge_kinds(floor, one, other):
    """A certificate about whether some plan leads one guise to another one."""
    rests = kind_rests(floor, one, other)
    if rests != ():
        return judge_called(floor, home(floor), _cast(floor, one, other, rests[0]))
    tallies, goals = _tallies(floor, one), _tallies(floor, other)
    return "counts", tuple([_unlike(tallies, goals, s) for s in range(step_of(floor))])


def _cast(floor, one, other, s):
    """An arrangement that looks as the other guise, to which some plan leads home, if that looks as the one.

    The numbers of beats of these plans have the remainder s by the step.
    """
    free = {}
    for dancer, ((p, label, number), kind) in enumerate(zip(marks(floor), one)):
        free.setdefault((p, (label + s) % number, kind), []).append(dancer)
    return tuple([free[(p, label, kind)].pop() for (p, label, _), kind in zip(marks(floor), other)])


def _unlike(tallies, goals, s):
    """The first triple of a part, a label and a kind that bars plans of so many beats; there must be one."""
    for p, tally in enumerate(tallies):
        for label in range(len(tally)):
            for kind in range(MANY_KINDS):
                if _differ(tallies, goals, s, (p, label, kind)):
                    return p, label, kind
    return None


def _differ(tallies, goals, s, triple):
    """Whether there are unlike numbers of a kind in a class and in the one to which it comes in s beats."""
    p, label, kind = triple
    return tallies[p][label][kind] != goals[p][(label + s) % len(goals[p])][kind]


def kinds_hold(floor, one, other, thing):
    """Whether any value is a certificate about whether some plan leads one guise to another one."""
    _need_guises(floor, one, other)
    if is_tagged(thing, "plan", 2):
        return is_plan(floor, thing[1]) and guise_after(floor, one, thing[1]) == other
    if not is_tagged(thing, "counts", 2):
        return False
    rows = thing[1]
    if not isinstance(rows, tuple) or len(rows) != step_of(floor):
        return False
    tallies, goals = _tallies(floor, one), _tallies(floor, other)
    return all([_is_triple(tallies, row) and _differ(tallies, goals, s, row) for s, row in enumerate(rows)])


def _is_triple(tallies, thing):
    """Whether any value is a triple of the position of a part, a label of it, and a kind."""
    if not isinstance(thing, tuple) or len(thing) != 3 or not is_below(thing[0], len(tallies)):
        return False
    return is_below(thing[1], len(tallies[thing[0]])) and is_below(thing[2], MANY_KINDS)
