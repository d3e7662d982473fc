"""The points of the document done by their words, slowly, with nothing of the package."""

import itertools
import math


def places(floor):
    return [(u, i) for u, length in enumerate(floor[0]) for i in range(length)]


def behind(floor, place):
    u, i = place
    return (u, i + 1) if i + 1 < floor[0][u] else (u, 0)


def partner(floor, place):
    for x, y in floor[1]:
        if place in (x, y):
            return y if place == x else x
    return None


def calls(floor):
    """All calls of a floor."""
    numbers = range(len(floor[1]))
    return [call for many in range(len(floor[1]) + 1) for call in itertools.combinations(numbers, many)]


def beat(floor, arrangement, call):
    """The arrangement behind a beat [2.2]."""
    now = {behind(floor, place): dancer for place, dancer in zip(places(floor), arrangement)}
    for number in call:
        x, y = floor[1][number]
        now[x], now[y] = now[y], now[x]
    return tuple(now[place] for place in places(floor))


def rolled(plan):
    """The calls of all beats of a plan."""
    found = []
    for step in plan:
        found += [step[1]] if step[0] == "beat" else rolled(step[2]) * step[1]
    return found


def after(floor, arrangement, plan):
    for call in rolled(plan):
        arrangement = beat(floor, arrangement, call)
    return arrangement


def place_of(floor, arrangement, dancer):
    return places(floor)[arrangement.index(dancer)]


def parts(floor):
    """The rings of each part, by joining what is tied until nothing changes."""
    lots = [{u} for u in range(len(floor[0]))]
    for x, y in floor[1]:
        tied = set().union(*[lot for lot in lots if x[0] in lot or y[0] in lot])
        lots = [lot for lot in lots if not lot & tied] + [tied]
    return sorted(tuple(sorted(lot)) for lot in lots)


def is_labelling(floor, lot, m, thing):
    """Whether a value is a labelling to m that keeps the rings of a lot [4.1]."""
    spots = places(floor)
    if type(thing) is not tuple or len(thing) != len(spots):
        return False
    if any(type(label) is not int or not 0 <= label < m for label in thing):
        return False
    label = dict(zip(spots, thing))
    steps = all((label[x] + 1) % m == label[behind(floor, x)] for x in spots if x[0] in lot)
    return steps and all(label[x] == label[y] for x, y in floor[1] if x[0] in lot)


def labellings(floor, lot, m):
    """All labellings to m that keep the rings of a lot, as dicts of the places on it."""
    found = []
    for starts in itertools.product(range(m), repeat=len(lot)):
        label = {(u, i): (start + i) % m for u, start in zip(lot, starts) for i in range(floor[0][u])}
        steps = all((label[x] + 1) % m == label[behind(floor, x)] for x in label)
        if steps and all(label[x] == label[y] for x, y in floor[1] if x in label):
            found.append(label)
    return found


def numbers_and_labels(floor):
    """The part numbers and the labels [4.3]: the greatest m to which a labelling is, and the one with 0 at first."""
    numbers, label = [], {}
    for lot in parts(floor):
        number = max(m for m in range(1, min(floor[0][u] for u in lot) + 1) if labellings(floor, lot, m))
        numbers.append(number)
        kept = [found for found in labellings(floor, lot, number) if found[(lot[0], 0)] == 0]
        assert len(kept) == 1
        label.update(kept[0])
    return tuple(numbers), tuple(label[place] for place in places(floor))


def round_sums(floor, place, bound, inner):
    """The sums of rounds from a place whose walks stay within bound; inner ones never pass the end of a ring."""
    seen, todo = {(place, 0)}, [(place, 0)]
    for (u, i), total in todo:
        length = floor[0][u]
        steps = [((u, j), total + d) for j, d in [(i + 1, 1), (i - 1, -1)] if 0 <= j < length]
        if not inner:
            steps = [((u, (i + d) % length), total + d) for d in (1, -1)]
        other = partner(floor, (u, i))
        for step in steps + ([] if other is None else [(other, total)]):
            if step not in seen and abs(step[1]) <= bound:
                seen.add(step)
                todo.append(step)
    return [total for spot, total in seen if spot == place]


def rows(floor, place, t):
    """The sets of the places at which a dancer from a place can stand behind 0 to t beats, by all calls of each."""
    found = [{place}]
    spots = places(floor)
    for _ in range(t):
        found.append({place_of(floor, beat(floor, tuple(spots), call), x) for x in found[-1] for call in calls(floor)})
    return found


def reached(floor, one, t):
    """The sets of the arrangements to which plans of 0 to t beats lead."""
    found = [{one}]
    for _ in range(t):
        found.append({beat(floor, now, call) for now in found[-1] for call in calls(floor)})
    return found


def round_length(floor):
    return math.lcm(*floor[0])


def late_sets(one, length, led):
    """What can be reached behind 0, 1, .. beats, up to a last round of that length, which then comes again and again.

    led tells the set of what can come of one behind the t-th beat, t being counted by the length.
    """
    kept = [{one}]
    while len(kept) < 2 * length or kept[-length:] != kept[-2 * length:-length]:
        kept.append({other for now in kept[-1] for other in led(now, len(kept))})
    return kept


def rests_in(kept, length, other):
    """The remainders by the length of all beats, from some on, behind which something can be reached."""
    start = len(kept) - length
    return sorted((start + t) % length for t, row in enumerate(kept[start:]) if other in row)


def is_free(floor):
    """Whether a floor is joined and all places have one label [4.5]."""
    return len(parts(floor)) == 1 and numbers_and_labels(floor)[0] == (1,)


def classes(floor):
    """The sets of places of one part with one label, as a set."""
    lots, (_, label) = parts(floor), numbers_and_labels(floor)
    found = {}
    for place, told in zip(places(floor), label):
        lot = [lot for lot in lots if place[0] in lot][0]
        found.setdefault((lot, told), set()).add(place)
    return {frozenset(lot) for lot in found.values()}
