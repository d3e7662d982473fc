"""Put back [7.1], rounds of places [7.2], fewest changes and beats [7.3]."""

import itertools
import random

import reference
from samples import (BARE, CHAIN, Case, EVEN, FLOOR, FLOOR_SLOT, NO_INTEGERS, POINT, POINTS, SIX, TWO_PARTS,
                     WRONG_ARRANGEMENTS, WRONG_FLOORS, few, led_by_chance, mixed, some_floors)
from touchrings.called import called_holds, called_rest, plan_at, sure_beat
from touchrings.errors import BadArrangement, BadFloor, BadNumber, Uncalled
from touchrings.fewest import (change_rest, changes_bound, cheapest_plan, fewest_beats, fewest_changes, shortest_plan)
from touchrings.figures import order_of
from touchrings.plans import after, before, beats_of, changes_of, home, is_plan

SMALL = [FLOOR, POINT, POINTS, EVEN, SIX, BARE, ((4,), (((0, 0), (0, 2)),)), ((5,), ()), ((2, 2, 1), ()),
         ((2, 2, 2), (((0, 0), (1, 1)),)), ((1, 3, 1), (((0, 0), (1, 1)), ((1, 2), (2, 0)))),
         ((6,), (((0, 0), (0, 1)), ((0, 2), (0, 3)), ((0, 4), (0, 5)))), ((3, 3), (((0, 0), (1, 0)), ((0, 1), (1, 2))))]
# Of 24 places, the rounds of whose rings are 840, 504 and 24.
WIDE = [((8, 5, 3, 7, 1), (((0, 0), (1, 0)), ((0, 3), (4, 0)), ((1, 1), (2, 0)), ((2, 1), (3, 6)))),
        ((8, 9, 7), (((0, 0), (1, 0)), ((1, 4), (2, 2)))), ((24,), (((0, 0), (0, 5)), ((0, 1), (0, 8))))]
HOME = (0, 1, 2, 3, 4)
ONE_SLOT = ("one", HOME, WRONG_ARRANGEMENTS, BadArrangement)
OTHER_SLOT = ("other", (4, 0, 1, 2, 3), WRONG_ARRANGEMENTS, BadArrangement)
FUNCTIONS = [changes_bound, fewest_changes, fewest_beats, cheapest_plan, shortest_plan]


def put_back(floor, one, other, t):
    """The put-back map [7.1] as a dict of places, each step back done by itself."""
    ahead = {reference.behind(floor, place): place for place in reference.places(floor)}
    found = {}
    for dancer in one:
        place = reference.place_of(floor, other, dancer)
        for _ in range(t):
            place = ahead[place]
        found[reference.place_of(floor, one, dancer)] = place
    return found


def many_rounds(leads):
    """How many cycles a dict of places has."""
    left, many = set(leads), 0
    while left:
        many += 1
        place = left.pop()
        while leads[place] in left:
            place = leads[place]
            left.remove(place)
    return many


def is_odd(leads):
    """Whether a dict of places is made by an odd number of exchanges, told by the pairs that it turns round."""
    ends = [leads[place] for place in sorted(leads)]
    return sum(x > y for x, y in itertools.combinations(ends, 2)) % 2 == 1


def least(floor, one, cost):
    """The dict from each arrangement that can be called to the least cost of the calls that lead there.

    It is found by going over all beats from all arrangements again, until nothing gets less.
    """
    found, newest = {one: 0}, [one]
    while newest:
        later = []
        for now in newest:
            for call in reference.calls(floor):
                other = reference.beat(floor, now, call)
                if found.get(other, 10 ** 9) > found[now] + cost(call):
                    found[other] = found[now] + cost(call)
                    later.append(other)
        newest = later
    return found


class Rests(Case):
    def test_document_example(self):
        self.same(change_rest(FLOOR, HOME, (4, 0, 1, 2, 3), 1), 1)
        self.same(change_rest(t=1, other=(4, 0, 1, 2, 3), one=HOME, floor=FLOOR), 1)

    def test_all_plans_of_few_beats(self):
        for floor in SMALL + [CHAIN, TWO_PARTS]:
            one = mixed(floor, 4)
            told = {(one, 0)}
            for t in range(5 if sum(floor[0]) < 8 else 3):
                for other, rest in told:
                    self.same(change_rest(floor, one, other, t), rest)
                told = {(reference.beat(floor, now, call), (rest + len(call)) % 2)
                        for now, rest in told for call in reference.calls(floor)}

    def test_by_the_put_back_map(self):
        for floor in SMALL + [CHAIN, TWO_PARTS]:
            for seed in range(4):
                # For most of these no plan leads one to the other.
                one, other = mixed(floor, seed), mixed(floor, seed + 40)
                for t in range(13):
                    self.same(change_rest(floor, one, other, t), int(is_odd(put_back(floor, one, other, t))))

    def test_no_beats_and_great_many(self):
        self.same([change_rest(FLOOR, HOME, HOME, t) for t in range(4)], [0, 1, 0, 1])
        self.same([change_rest(FLOOR, HOME, HOME, 10 ** 30 + t) for t in range(2)], [0, 1])
        for floor in SMALL + WIDE:
            one, other = mixed(floor, 1), mixed(floor, 2)
            self.same(change_rest(floor, one, one, 0), 0)
            length = reference.round_length(floor)
            for t in [10 ** 30, 10 ** 30 - 1]:
                self.same(change_rest(floor, one, other, t), change_rest(floor, one, other, t % length))

    def test_plans_from_the_sure_beat_on(self):
        for floor in SMALL[:1] + SMALL[2:6] + SMALL[9:]:
            one = mixed(floor, 3)
            other = led_by_chance(floor, one, 5)
            rest, step = called_rest(floor, one, other)
            for t in [sure_beat(floor), 10 ** 30]:
                t += (rest - t) % step
                plan = plan_at(floor, one, other, t)
                self.same(change_rest(floor, one, other, t), changes_of(floor, plan) % 2)

    def test_wrong(self):
        self.raises_in_order(change_rest, few(FLOOR_SLOT), few(ONE_SLOT), OTHER_SLOT,
                             ("t", 1, NO_INTEGERS + [-1, -10 ** 30], BadNumber))


class Fewest(Case):
    def test_document_examples(self):
        told = [call(FLOOR, HOME, (4, 0, 1, 2, 3)) for call in FUNCTIONS[:3]]
        self.same(told, [1, 1, 1])

    def test_by_name(self):
        self.same([call(other=(4, 0, 1, 2, 3), one=HOME, floor=FLOOR) for call in FUNCTIONS[:3]], [1, 1, 1])
        for call in FUNCTIONS[3:]:
            self.same(call(other=(4, 0, 1, 2, 3), one=HOME, floor=FLOOR), (("beat", (0,)),))

    def right(self, floor, one, other, changes, beats):
        """All that is told of two arrangements, some plans leading from the one to the other."""
        self.same(fewest_changes(floor, one, other), changes)
        self.same(fewest_beats(floor, one, other), beats)
        cheap, short = cheapest_plan(floor, one, other), shortest_plan(floor, one, other)
        for plan in [cheap, short]:
            self.plan_is_small(floor, plan)
            self.same(reference.after(floor, one, plan), other)
            self.assertIs(called_holds(floor, one, other, ("plan", plan)), True)
        self.same(changes_of(floor, cheap), changes)
        self.same(beats_of(floor, short), beats)
        bound = changes_bound(floor, one, other)
        self.assertLessEqual(bound, changes)
        return bound < changes

    def test_all_calls_gone_through(self):
        below = 0
        for floor in SMALL + [floor for floor in some_floors(40) if sum(floor[0]) <= 6]:
            one = mixed(floor, 7)
            changes, beats = least(floor, one, len), least(floor, one, lambda call: 1)
            others = sorted(changes)
            for other in others[:2] + random.Random(3).sample(others, min(6, len(others))) + others[-1:]:
                below += self.right(floor, one, other, changes[other], beats[other])
        self.assertGreater(below, 10)

    def test_the_farthest_ones(self):
        for floor in [EVEN, SMALL[-1], SMALL[-2], ((6,), (((0, 0), (0, 1)),)), ((1, 5), (((0, 0), (1, 0)),))]:
            changes, beats = least(floor, home(floor), len), least(floor, home(floor), lambda call: 1)
            for told in [changes, beats]:
                other = max(told, key=told.get)
                self.right(floor, home(floor), other, changes[other], beats[other])

    def test_one_arrangement_for_both(self):
        for floor in SMALL:
            one = mixed(floor, 2)
            self.same([call(floor, one, one) for call in FUNCTIONS[:3]], [0, 0, 0])
            for call in FUNCTIONS[3:]:
                self.same(beats_of(floor, call(floor, one, one)), 0)

    def test_the_bound_by_its_words(self):
        for floor in SMALL + WIDE:
            for seed in range(2 if floor in WIDE else 5):
                one = mixed(floor, seed)
                other = led_by_chance(floor, one, seed)
                rest, step = called_rest(floor, one, other)
                many = sum(floor[0])
                wanted = min(many - many_rounds(put_back(floor, one, other, t))
                             for t in range(rest, reference.round_length(floor), step))
                self.same(changes_bound(floor, one, other), wanted)

    def test_the_bound_may_be_less(self):
        # Places that touch nowhere are exchanged by way of others only.
        floor, one, other = ((6,), (((0, 0), (0, 1)),)), (0, 1, 2, 3, 4, 5), (2, 1, 0, 3, 4, 5)
        self.same([changes_bound(floor, one, other), fewest_changes(floor, one, other)], [1, 3])

    def test_steps_alone(self):
        self.same([call(((5,), ()), HOME, (3, 4, 0, 1, 2)) for call in FUNCTIONS[:3]], [0, 0, 2])
        plan = cheapest_plan(FLOOR, HOME, (0, 1, 4, 2, 3))
        self.same([changes_of(FLOOR, plan), beats_of(FLOOR, plan) % 6], [0, 4])

    def test_plans_may_be_passed_on(self):
        one, other = (0, 1, 2, 3, 4, 5), (4, 5, 2, 1, 0, 3)
        for call in FUNCTIONS[3:]:
            plan = call(EVEN, one, other)
            self.same(after(EVEN, one, plan), other)
            self.same(before(EVEN, other, plan), one)
            self.assertIs(type(order_of(EVEN, (("times", 3, plan),))), int)
            self.assertIs(is_plan(EVEN, plan), True)

    def test_uncalled(self):
        six = (0, 1, 2, 3, 4, 5)
        for floor, one, other in [(EVEN, six, (1, 0, 2, 3, 4, 5)), (BARE, six, six[::-1]),
                                  (POINTS, (0, 1, 2), (1, 0, 2)), (((5,), ()), HOME, (1, 0, 2, 3, 4))]:
            self.assertIsNone(called_rest(floor, one, other))
            for call in FUNCTIONS:
                error = self.raised(call, floor, one, other)
                self.assertIs(type(error), Uncalled)
                self.assertEqual(vars(error), {})

    def test_wrong(self):
        for call in FUNCTIONS:
            self.raises_in_order(call, few(FLOOR_SLOT), ONE_SLOT, OTHER_SLOT)
            for thing in WRONG_FLOORS:
                self.raises(BadFloor, thing, call, thing, None, None)
            self.raises(BadArrangement, None, call, BARE, (0, 1, 2, 3, 4, 5), None)
