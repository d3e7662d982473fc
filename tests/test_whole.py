"""The whole program: what is told of a floor goes along with turnings, and with the floor danced backward."""

import itertools
import random

from samples import CHAIN, Case, EVEN, FLOOR, FOURS, POINTS, SIX, THREES, TWO_PARTS, mixed, some_floors, some_plans
from touchrings import (called, counts, fewest, figures, floors, halls, kinds, labels, offers, pairs, plans, ruled,
                        skips, turnings, unseen, ways)

SOME = [FLOOR, EVEN, SIX, POINTS, TWO_PARTS, CHAIN, THREES, FOURS] + some_floors(25)


class Turned:
    """A floor, a turning of it that falls out by chance, and how all else is called then."""

    def __init__(self, floor, seed):
        chance = random.Random(seed)
        names = tuple(chance.sample(range(len(floor[0])), len(floor[0])))
        self.floor = floor
        self.turning = (names, tuple(chance.randrange(length) for length in floor[0]))
        self.led = turnings.led(floor, self.turning)
        self.numbers = [self.led[1].index(self.touch(touch)) for touch in floor[1]]

    def place(self, place):
        return turnings.place_led(self.floor, self.turning, place)

    def touch(self, touch):
        return tuple(sorted(self.place(place) for place in touch))

    def lots(self, lots):
        return tuple(sorted(tuple(sorted(self.place(place) for place in lot)) for lot in lots))

    def row(self, items):
        """Items by seats, by the seats as they are called then."""
        found = [None] * len(items)
        for place, item in zip(floors.places(self.floor), items):
            found[floors.seat(self.led, self.place(place))] = item
        return tuple(found)

    def touched(self, items):
        """Items by the numbers of touches."""
        found = [None] * len(items)
        for number, item in zip(self.numbers, items):
            found[number] = item
        return tuple(found)

    def plan(self, plan):
        return tuple(("beat", tuple(sorted(self.numbers[number] for number in step[1]))) if step[0] == "beat"
                     else ("times", step[1], self.plan(step[2])) for step in plan)


class AlongTurnings(Case):
    def turned(self):
        return [Turned(floor, seed) for seed, floor in enumerate(SOME)]

    def test_floors_and_labels(self):
        for told in self.turned():
            one, other = told.floor, told.led
            self.assertTrue(floors.is_floor(other))
            self.assertEqual(sorted(labels.part_numbers(one)), sorted(labels.part_numbers(other)))
            self.same(labels.classes(other), told.lots(labels.classes(one)))
            self.same(labels.is_free(other), labels.is_free(one))
            self.same(called.sure_beat(other), called.sure_beat(one))
            self.same(counts.many_arrangements(other), counts.many_arrangements(one))
            self.same(offers.needless(other), tuple(sorted(told.numbers[at] for at in offers.needless(one))))
            self.assertIsNotNone(turnings.turning_between(one, other))
            self.same(turnings.led(other, turnings.back(one, told.turning)), one)

    def test_plans_and_figures(self):
        for told in self.turned():
            for plan in some_plans(told.floor, 5):
                there = told.plan(plan)
                start = mixed(told.floor, 1)
                self.same(plans.after(told.led, told.row(start), there), told.row(plans.after(told.floor, start, plan)))
                self.same(figures.order_of(told.led, there), figures.order_of(told.floor, plan))
                for x, y in list(itertools.permutations(floors.places(told.floor), 2))[::17]:
                    self.same(figures.times_at(told.led, there, told.place(x), told.place(y)),
                              figures.times_at(told.floor, plan, x, y))
                    self.same(figures.meetings(told.led, there, told.place(x), told.place(y)),
                              figures.meetings(told.floor, plan, x, y))

    def test_one_dancer_and_two(self):
        for told in self.turned():
            for x, y in list(itertools.permutations(floors.places(told.floor), 2))[::5]:
                for call in [ways.times, ways.first_time, pairs.can_meet, pairs.first_meeting, pairs.latest_meeting]:
                    self.same(call(told.led, told.place(x), told.place(y)), call(told.floor, x, y))
                self.assertEqual(pairs.judge_apart(told.led, told.place(x), told.place(y))[0],
                                 pairs.judge_apart(told.floor, x, y)[0])

    def test_arrangements_and_guises(self):
        for told in self.turned():
            one = mixed(told.floor, 2)
            for other in [mixed(told.floor, 3), plans.after(told.floor, one, some_plans(told.floor, 4)[-1])]:
                there = (told.led, told.row(one), told.row(other))
                self.same(called.called_rest(*there), called.called_rest(told.floor, one, other))
                guises = [tuple(dancer % 3 for dancer in row) for row in (one, other)]
                self.same(kinds.kind_rests(told.led, *map(told.row, guises)), kinds.kind_rests(told.floor, *guises))
                self.same(kinds.many_guises(told.led, told.row(guises[0])), kinds.many_guises(told.floor, guises[0]))
                if called.called_rest(told.floor, one, other) is not None:
                    self.same(fewest.changes_bound(*there), fewest.changes_bound(told.floor, one, other))
                    if len(one) <= 6:
                        self.same(fewest.fewest_changes(*there), fewest.fewest_changes(told.floor, one, other))
                        self.same(fewest.fewest_beats(*there), fewest.fewest_beats(told.floor, one, other))

    def test_rules_and_skips(self):
        chance = random.Random(4)
        for told in self.turned():
            rules = tuple(chance.choice(["call", "always", "never", ("every", 3, 1)]) for _ in told.floor[1])
            self.same(ruled.rules_round(told.led, told.touched(rules)), ruled.rules_round(told.floor, rules))
            self.same(ruled.tied_lots(told.led, told.touched(rules)), told.lots(ruled.tied_lots(told.floor, rules)))
            jumps = tuple(sorted((u, chance.choice([1, 2, 3])) for u in range(len(told.floor[0]))))
            there = tuple(sorted((told.turning[0][u], r) for u, r in jumps))
            self.assertEqual(sorted(skips.skip_numbers(told.led, there)), sorted(skips.skip_numbers(told.floor, jumps)))
            one, other = mixed(told.floor, 5), mixed(told.floor, 6)
            if len(one) <= 12:
                self.same(skips.judge_skipped(told.led, there, told.row(one), told.row(other))[0] == "plan",
                          skips.judge_skipped(told.floor, jumps, one, other)[0] == "plan")

    def test_sights_and_halls(self):
        for told in self.turned():
            start = mixed(told.floor, 7)
            sights = [start]
            for call in [(), tuple(range(len(told.floor[1]))), tuple(range(len(told.floor[1])))[:1]]:
                sights.append(plans.after(told.floor, sights[-1], (("beat", call),)))
            least = unseen.least_floor(told.floor[0], tuple(sights))
            self.same(unseen.least_floor(told.led[0], tuple(map(told.row, sights))), turnings.led(least, told.turning))
            if sum(told.floor[0]) <= 10:
                self.same(unseen.sure(told.led[0], tuple(map(told.row, sights)), ("free",)),
                          unseen.sure(told.floor[0], tuple(sights), ("free",)))
            here, there = halls.Hall(told.floor), halls.Hall(told.led)
            for promise in [("joined",), ("free",), ("number", 6)]:
                self.assertEqual(here.judged(promise)[0], there.judged(promise)[0])


class Backward(Case):
    def test_twice_backward_is_the_floor(self):
        for floor in SOME:
            other = turnings.backward(floor)
            self.same(turnings.backward(other), floor)
            self.same([labels.part_numbers(other), counts.many_arrangements(other), called.sure_beat(other)],
                      [labels.part_numbers(floor), counts.many_arrangements(floor), called.sure_beat(floor)])

    def test_plans_back_lead_back(self):
        for floor in SOME:
            for plan in some_plans(floor, 4):
                again = plans.plan_back(turnings.backward(floor), plans.plan_back(floor, plan))
                self.same(plans.plan_map(floor, again), plans.plan_map(floor, plan))
                self.same(plans.beats_of(floor, again), plans.beats_of(floor, plan))

    def test_what_can_be_called_can_be_called_back(self):
        for floor in SOME:
            other = turnings.backward(floor)
            stand = {place: (place[0], -place[1] % floor[0][place[0]]) for place in floors.places(floor)}
            one = mixed(floor, 1)
            end = plans.after(floor, one, some_plans(floor, 4)[-1])
            rows = []
            for row in (end, one):
                found = [None] * len(row)
                for place, dancer in zip(floors.places(floor), row):
                    found[floors.seat(other, stand[place])] = dancer
                rows.append(tuple(found))
            self.same(called.called_rest(other, *rows), called.called_rest(floor, one, end))


class AtTheLimits(Case):
    def test_what_is_within_the_limits_is_answered(self):
        great = ((19, 21), tuple(((0, i), (1, 2 * i)) for i in range(10)))
        home = plans.home(great)
        self.same(counts.number_of(great, counts.arrangement_with(great, 10 ** 40)), 10 ** 40)
        self.assertIs(pairs.can_meet(great, (0, 0), (0, 1)), True)
        self.same(kinds.many_guises(great, tuple(dancer % 2 for dancer in home)), 137846528820)
        lone = ((40,), ())
        nine = tuple(dancer % 10 for dancer in home)
        self.same(kinds.kind_rests(lone, nine, nine[3:] + nine[:3]), (7, 17, 27, 37))
        self.same(kinds.many_guises(lone, nine), 10)
        # A floor of 24 places, the round of whose rings is 840, and one of 14 places.
        wide = ((3, 5, 7, 8, 1), (((0, 0), (1, 0)), ((1, 1), (2, 0)), ((2, 1), (3, 0)), ((3, 1), (4, 0))))
        one = plans.home(wide)
        self.same(fewest.changes_bound(wide, one, (1, 0) + one[2:]), 1)
        self.same(fewest.change_rest(wide, one, (1, 0) + one[2:], 10 ** 30), fewest.change_rest(
            wide, one, (1, 0) + one[2:], 10 ** 30 % 840))
        ring = ((14,), tuple(((0, 2 * i), (0, 2 * i + 1)) for i in range(7)))
        told = pairs.judge_apart(ring, (0, 0), (0, 2))
        self.assertIs(pairs.apart_holds(ring, (0, 0), (0, 2), told), True)
        hall = halls.Hall(ring)
        hall.deal(tuple(("promise", promise) for promise in [("joined",), ("number", 1000), ("free",), ("number", 999),
                                                             ("callable", plans.home(ring)[::-1])]))
        self.assertIs(hall.would((("plan", (("times", 10 ** 30, (("beat", (0, 3)),)),)),) * 12), True)
