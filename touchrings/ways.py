"""Ways: where one dancer can be, whatever the others do."""

from touchrings.errors import BadNumber, BadWay
from touchrings.floors import behind, is_place_on, need_place, need_places, partners, parts, places, seat
from touchrings.labels import keeps, labelling_to, marks
from touchrings.maps import seats
from touchrings.values import is_ascending, is_below, is_from, is_pair, is_tagged


def is_way(floor, place, thing):
    """Whether any value is a way from a place."""
    need_place(floor, place)
    return _end_of_way(floor, place, thing) is not None


def way_end(floor, place, way):
    """The place to which a way leads from a place."""
    need_place(floor, place)
    end = _end_of_way(floor, place, way)
    if end is None:
        raise BadWay(way)
    return end


def _end_of_way(floor, place, thing):
    """The place to which any value leads from a place as a way, None if it is no way from there."""
    if not isinstance(thing, tuple) or not all([_is_run(run) for run in thing]):
        return None
    pairs = partners(floor)
    u, i = place
    for k, b in thing:
        i = (i + k) % floor[0][u]
        if b == 1:
            if (u, i) not in pairs:
                return None
            u, i = pairs[(u, i)]
    return u, i


def _is_run(thing):
    """Whether any value is a run, perhaps one that ends at a place without a partner."""
    return is_pair(thing) and is_from(thing[0], 1) and is_below(thing[1], 2)


def _sources(floor):
    """For each seat the two seats from which a beat can lead there: by passing, and by changing with the partner.

    For a place without a partner both are the one by passing.
    """
    at = seats(floor)
    pairs = partners(floor)
    ahead = {(u, i): at[(u, (i - 1) % floor[0][u])] for u, i in places(floor)}
    return [(ahead[place], ahead[pairs.get(place, place)]) for place in places(floor)]


def _rows(floor, place):
    """For t from 0 on whether a dancer from a place can stand at each seat behind t beats.

    The last row is the first one that has a whole class; from there on each row has the class that comes next.
    """
    sources = _sources(floor)
    marked = marks(floor)
    whole = marked.count(marked[seat(floor, place)])
    row = [other == place for other in places(floor)]
    rows = [row]
    while sum(row) < whole:
        row = [row[passing] or row[changing] for passing, changing in sources]
        rows.append(row)
    return rows


def _places_in(floor, row):
    """The ascending tuple of the places that a row tells."""
    return tuple([place for place, can in zip(places(floor), row) if can])


def stands(floor, place, t):
    """The ascending tuple of all places at which a dancer from a place can stand behind t beats."""
    need_place(floor, place)
    if not is_from(t, 0):
        raise BadNumber(t)
    rows = _rows(floor, place)
    if t < len(rows):
        return _places_in(floor, rows[t])
    marked = marks(floor)
    part, label, number = marked[seat(floor, place)]
    later = (part, (label + t) % number, number)
    return _places_in(floor, [mark == later for mark in marked])


def label_step(floor, place, other):
    """The pair of the label of a place less that of another one by the number of their part, and that number.

    None if the places are of unlike parts.
    """
    marked = marks(floor)
    part, label, number = marked[seat(floor, place)]
    other_part, other_label, _ = marked[seat(floor, other)]
    return ((other_label - label) % number, number) if part == other_part else None


def times(floor, place, other):
    """The times (few, start, d, g) from a place to another one, None if they are of unlike parts."""
    need_places(floor, place, other)
    step = label_step(floor, place, other)
    if step is None:
        return None
    rest, number = step
    s = seat(floor, other)
    can = [row[s] for row in _rows(floor, place)]
    # The last row has a whole class, so from there on the label tells all.
    start = len(can) - 1
    while start > 0 and can[start - 1] == ((start - 1) % number == rest):
        start -= 1
    return tuple([t for t in range(start) if can[t]]), start, rest, number


def first_time(floor, place, other):
    """The least number of beats behind which a dancer from a place can stand at another one, None if there is none."""
    found = times(floor, place, other)
    if found is None:
        return None
    few, start, rest, number = found
    return few[0] if few != () else start + (rest - start) % number


def shortest_way(floor, place, other):
    """A way with the least number of beats from a place to another one, None if there is none."""
    t = first_time(floor, place, other)
    return None if t is None else _way_of(floor, _rows(floor, place), other, t)


def _way_of(floor, rows, other, t):
    """A way of t beats to another place from the one of the rows; None if there is none, if t is within the rows.

    A t behind the rows must fit the labels.
    """
    # The last row has a whole class, with the place from which one gets to the other one without any change.
    told = min(t, len(rows) - 1)
    s = seat(floor, behind(floor, other, told - t))
    if not rows[told][s]:
        return None
    sources = _sources(floor)
    changes = []
    for row in rows[:told][::-1]:
        passing, changing = sources[s]
        changes.append(not row[passing])
        s = passing if row[passing] else changing
    return _runs(changes[::-1], t - told)


def _runs(changes, idle):
    """The way whose beats end with the told changes, and then has so many more beats without any."""
    way = []
    k = 0
    for change in changes:
        k += 1
        if change:
            way.append((k, 1))
            k = 0
    return tuple(way) if k + idle == 0 else (*way, (k + idle, 0))


def judge_stand(floor, place, other, t):
    """A certificate about whether a dancer from a place can stand at another one behind t beats."""
    _need_stand(floor, place, other, t)
    step = label_step(floor, place, other)
    if step is None:
        return ("parts",)
    rest, number = step
    if t % number != rest:
        return "labels", number, labelling_to(floor, number)
    rows = _rows(floor, place)
    way = _way_of(floor, rows, other, t)
    if way is not None:
        return "way", way
    return "rows", tuple([_places_in(floor, row) for row in rows[:t + 1]])


def _need_stand(floor, place, other, t):
    """Raise BadFloor, BadPlace, then BadNumber for any value that is no integer from 0 on."""
    need_places(floor, place, other)
    if not is_from(t, 0):
        raise BadNumber(t)


def stand_holds(floor, place, other, t, thing):
    """Whether any value is a certificate about where a dancer from a place can stand behind t beats."""
    _need_stand(floor, place, other, t)
    step = label_step(floor, place, other)
    if is_tagged(thing, "way", 2):
        way = thing[1]
        return _end_of_way(floor, place, way) == other and sum([k for k, _ in way]) == t
    if is_tagged(thing, "parts", 1):
        return step is None
    if is_tagged(thing, "labels", 3):
        return step is not None and labels_bar(floor, place, other, t, thing[1], thing[2])
    return is_tagged(thing, "rows", 2) and _rows_bar(floor, place, other, t, thing[1])


def labels_bar(floor, place, other, t, m, labelling):
    """Whether any values are a number m and a labelling to m that keeps the part of two places and bars t beats."""
    part = marks(floor)[seat(floor, place)][0]
    if not is_from(m, 1) or not keeps(floor, parts(floor)[part], m, labelling):
        return False
    return (labelling[seat(floor, other)] - labelling[seat(floor, place)] - t) % m != 0


def _rows_bar(floor, place, other, t, thing):
    """Whether any value is rows of all places that can be reached behind 0 up to t beats, the other one not at last."""
    if not isinstance(thing, tuple) or len(thing) != t + 1 or not all([_is_row(floor[0], row) for row in thing]):
        return False
    pairs = partners(floor)
    for row, later in zip(thing, thing[1:]):
        passed = [(u, (i + 1) % floor[0][u]) for u, i in row]
        changed = [pairs[x] for x in passed if x in pairs]
        if not all([x in later for x in passed + changed]):
            return False
    return place in thing[0] and other not in thing[-1]


def _is_row(rings, thing):
    """Whether any value is an ascending tuple of places of rings."""
    return isinstance(thing, tuple) and all([is_place_on(rings, place) for place in thing]) and is_ascending(thing)
