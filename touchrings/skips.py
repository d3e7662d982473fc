"""Skips: rings that are put on by themselves between the beats, and what can be called with them."""

from itertools import combinations
from math import gcd, lcm

from touchrings.called import idle, shifts
from touchrings.errors import BadPlan, BadSkips
from touchrings.floors import need_floor, parts
from touchrings.labels import divisor, marks, part_numbers
from touchrings.maps import led_by, map_of, moves, seats
from touchrings.plans import are_steps, need_arrangement, need_arrangements
from touchrings.remainders import joint_of_all
from touchrings.swaps import round_length, swaps
from touchrings.values import is_ascending, is_below, is_from, is_pair, is_tagged

MOST_STEPS = 1000


def are_skips(floor, thing):
    """Whether any value is skips of a floor."""
    need_floor(floor)
    if not isinstance(thing, tuple) or not all([_is_skip(floor[0], item) for item in thing]):
        return False
    return is_ascending(thing)


def _is_skip(rings, thing):
    """Whether any value is a pair of a ring and of how many times its dancers step on at once."""
    return is_pair(thing) and is_below(thing[0], len(rings)) and is_from(thing[1], 1) and thing[1] <= MOST_STEPS


def _need_skips(floor, skips):
    """Raise BadFloor for any value that is no floor, then BadSkips for any that is no skips of it."""
    if not are_skips(floor, skips):
        raise BadSkips(skips)


def skip_numbers(floor, skips):
    """The skip numbers of the parts of a floor."""
    _need_skips(floor, skips)
    pairs = list(zip(parts(floor), part_numbers(floor)))
    return tuple([divisor([number, *[r for u, r in skips if u in lot]]) for lot, number in pairs])


def skipped_after(floor, skips, arrangement, plan):
    """The arrangement behind a skip plan."""
    _need_skips(floor, skips)
    need_arrangement(floor, arrangement)
    if not are_steps(len(floor[1]), len(skips), plan):
        raise BadPlan(plan)
    return led_by(arrangement, map_of(moves(floor, skips), plan))


def _rows(floor, skips, one, other):
    """For each dancer what its shift is told by, None if it is astray.

    That is the position of its part, its shift, the number by which all of its part must shift alike, and the skip
    number of its part, by which it is told from the dancers of other parts.
    """
    part_of = {dancer: mark[0] for dancer, mark in zip(one, marks(floor))}
    lots, across = parts(floor), skip_numbers(floor, skips)
    rows = []
    for dancer, shift in enumerate(shifts(floor, one, other)):
        if shift is None:
            rows.append(None)
        else:
            part = part_of[dancer]
            # A ring alone is put on as a whole, so its skips exchange nobody.
            rows.append((part, shift[0], shift[1] if len(lots[part]) == 1 else across[part], across[part]))
    return rows


def _shift_unlike(row, other):
    """Whether two dancers, neither astray, shift unlike with skips."""
    by = row[2] if row[0] == other[0] else gcd(row[3], other[3])
    return (row[1] - other[1]) % by != 0


def judge_skipped(floor, skips, one, other):
    """A certificate about whether some skip plan leads one arrangement to another one."""
    _need_skips(floor, skips)
    need_arrangements(floor, one, other)
    rows = _rows(floor, skips, one, other)
    if None in rows:
        return "astray", rows.index(None)
    for d, e in combinations(range(len(rows)), 2):
        if _shift_unlike(rows[d], rows[e]):
            return "unlike", d, e
    puts = _puts(floor, skips)
    last = _last_steps(floor, puts, rows)
    ahead = [other[s] for s in map_of(moves(floor, skips), last)]
    return "plan", _exchanges(floor, puts, one, ahead) + last


def _exchanges(floor, puts, one, ahead):
    """The steps that lead one arrangement to another one within the joined seats, with everybody else at home."""
    length = round_length(floor)
    steps = ()
    for t, number, there, back in swaps(_skip_ties(floor, puts), one, ahead):
        beats = idle(t - 1) + (("beat", (number,)),) + idle(length - t)
        steps = steps + _skip_steps(there) + beats + _skip_steps(back)
    return steps


def _last_steps(floor, puts, rows):
    """The beats and skips without changes that turn all dancers as their shifts tell."""
    t, _ = joint_of_all([(shift % across, across) for _, shift, _, across in rows])
    lots = parts(floor)
    # Of each part that is a ring alone, what its skips must add to the beats, and by which number that is counted.
    alone = {lots[part][0]: ((shift - t) % within, within) for part, shift, within, _ in rows if len(lots[part]) == 1}
    steps = idle(t)
    for u, (wanted, by) in alone.items():
        fitting = [row for put, row in puts[u].items() if put % by == wanted]
        steps = steps + _skip_steps(fitting[0])
    return steps


def _puts(floor, skips):
    """For each ring the dict from each number of places by which skips can put it on to a shortest row of them."""
    found = []
    for u, length in enumerate(floor[0]):
        own = [(i, r) for i, (v, r) in enumerate(skips) if v == u]
        rows = {0: ()}
        newest = [0]
        while newest != []:
            steps = [((put + r) % length, rows[put] + (i,)) for put in newest for i, r in own]
            newest = []
            for put, row in steps:
                if put not in rows:
                    rows[put] = row
                    newest.append(put)
        found.append(rows)
    return found


def _skip_steps(row):
    """The steps of a plan for a row of positions of skips; in which order they are done does not matter."""
    many = {i: row.count(i) for i in row}
    return tuple([("skip", i) if k == 1 else ("times", k, (("skip", i),)) for i, k in many.items()])


def _skip_ties(floor, puts):
    """For each seat the dict from each seat that an exchange joins with it to how that is done.

    This is told by (t, number, there, back): skips there, a touch called alone behind the t-th beat of a round of beats
    and skips back, which exchange the dancers of the two seats and leave everybody else at home.
    """
    rings, touches = floor
    at = seats(floor)
    found = [{} for _ in at]
    for number, ((u, i), (v, j)) in enumerate(touches):
        for a, b, there, back in _detours(rings, puts, u, v):
            for t in range(1, lcm(rings[u], rings[v]) + 1):
                s, r = at[(u, (i - a - t) % rings[u])], at[(v, (j - b - t) % rings[v])]
                found[s].setdefault(r, (t, number, there, back))
                found[r].setdefault(s, (t, number, there, back))
    return found


def _detours(rings, puts, u, v):
    """By how much skips can put on each of two rings, none first, each with the skips that do it and that undo it."""
    if u == v:
        # Both places of a touch within a ring are put on alike, as beats put them on too.
        return [(0, 0, (), ())]
    return [(a, b, puts[u][a] + puts[v][b], puts[u][-a % rings[u]] + puts[v][-b % rings[v]])
            for a in puts[u] for b in puts[v]]


def skipped_hold(floor, skips, one, other, thing):
    """Whether any value is a certificate about whether some skip plan leads one arrangement to another one."""
    _need_skips(floor, skips)
    need_arrangements(floor, one, other)
    if is_tagged(thing, "plan", 2):
        plan = thing[1]
        return are_steps(len(floor[1]), len(skips), plan) and skipped_after(floor, skips, one, plan) == other
    rows = _rows(floor, skips, one, other)
    if is_tagged(thing, "astray", 2):
        return is_below(thing[1], len(rows)) and rows[thing[1]] is None
    if not is_tagged(thing, "unlike", 3) or not is_below(thing[2], len(rows)) or not is_below(thing[1], thing[2]):
        return False
    first, second = rows[thing[1]], rows[thing[2]]
    return first is not None and second is not None and _shift_unlike(first, second)
