"""The fewest changes, and the fewest beats, from one arrangement to another one."""

from heapq import heappop, heappush
from itertools import combinations

from touchrings.called import called_rest
from touchrings.errors import BadNumber, Uncalled
from touchrings.maps import beat_map, cycles, led_by, moves, repeated, step_map
from touchrings.plans import need_arrangements
from touchrings.swaps import round_length
from touchrings.values import is_from


def _put_back(floor, one, other, t):
    """The put-back map of two arrangements and a number of beats."""
    back = repeated(step_map(floor), -t)
    ends = {dancer: s for s, dancer in enumerate(other)}
    return [back[ends[dancer]] for dancer in one]


def _needed(floor, one, other, t):
    """How many changes a plan of that many beats has at least, as the rounds of the put-back map tell."""
    return len(one) - len(cycles(_put_back(floor, one, other, t)))


def change_rest(floor, one, other, t):
    """The remainder by 2 of the number of changes of each plan of t beats that leads one arrangement to another one."""
    need_arrangements(floor, one, other)
    if not is_from(t, 0):
        raise BadNumber(t)
    # A cycle of n places is made by n less 1 exchanges.
    return _needed(floor, one, other, t) % 2


def _called(floor, one, other):
    """The pair (rest, step) of the beats from one arrangement to another one; Uncalled if no plan leads there."""
    told = called_rest(floor, one, other)
    if told is None:
        raise Uncalled()
    return told


def changes_bound(floor, one, other):
    """The least number of changes that the rounds of the put-back maps leave to plans of the right numbers of beats."""
    rest, step = _called(floor, one, other)
    return min([_needed(floor, one, other, t) for t in range(rest, round_length(floor), step)])


def fewest_changes(floor, one, other):
    """The least number of changes of all plans that lead one arrangement to another one."""
    return sum([len(call) for _, call in cheapest_plan(floor, one, other)])


def fewest_beats(floor, one, other):
    """The least number of beats of all plans that lead one arrangement to another one."""
    return len(shortest_plan(floor, one, other))


def cheapest_plan(floor, one, other):
    """A plan with the fewest changes that leads one arrangement to another one."""
    _called(floor, one, other)
    return _least_plan(floor, one, other, [len(call) for call in _calls(floor)])


def shortest_plan(floor, one, other):
    """A plan with the fewest beats that leads one arrangement to another one."""
    _called(floor, one, other)
    return _least_plan(floor, one, other, [1 for _ in _calls(floor)])


def _calls(floor):
    """All calls of a floor, the shortest ones first."""
    many = len(floor[1])
    return [call for size in range(many + 1) for call in combinations(range(many), size)]


def _least_plan(floor, one, other, costs):
    """A plan of single beats whose calls cost least in all; some plan must lead one arrangement to the other one."""
    moved = moves(floor)
    beats = [(beat_map(moved, call), call, cost) for call, cost in zip(_calls(floor), costs)]
    reached = {}
    queue = [(0, one, one, ())]
    while other not in reached:
        total, now, ahead, call = heappop(queue)
        if now not in reached:
            reached[now] = (ahead, call)
            for led, called, cost in beats:
                heappush(queue, (total + cost, led_by(now, led), now, called))
    return _traced(reached, one, other)


def _traced(reached, one, other):
    """The plan that leads from one arrangement to another one by what each was reached from, and by which call."""
    found = []
    now = other
    while now != one:
        now, call = reached[now]
        found.append(("beat", call))
    return tuple(found[::-1])
