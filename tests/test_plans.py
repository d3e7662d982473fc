"""Arrangements [2.1], beats [2.2], plans [2.3], maps [2.4], plans back [2.5]."""

import itertools
import random

import reference
from samples import (BARE, CHAIN, CHANGE, Case, EVEN, FLOOR, FLOORS, FLOOR_SLOT, FORTY, GREAT, JUNK, NESTED,
                     NO_INTEGERS, PLACE_SLOT, PLAN_SLOT, POINT, POINTS, SIX, TWO_PARTS, WRONG_ARRANGEMENTS,
                     WRONG_FLOORS, WRONG_PLANS, some_plans)
from touchrings.errors import BadArrangement, BadFloor, BadNumber, TooMany
from touchrings.floors import places
from touchrings.plans import (after, before, beats_of, changes_of, home, is_arrangement, is_plan, plan_back, plan_map,
                              stands_at, unrolled)
from touchrings.turnings import backward

HOME = (0, 1, 2, 3, 4)
FOUR_DEEP = (("times", 2, (("times", 3, (("times", 2, (("times", 2, CHANGE), ("beat", ()))),)), ("beat", (0,)))),)
ARRANGEMENT_SLOT = ("arrangement", HOME, WRONG_ARRANGEMENTS, BadArrangement)


class Arrangements(Case):
    def test_home(self):
        self.same(home(FLOOR), HOME)
        self.same(home(floor=POINT), (0,))
        for floor in FLOORS:
            self.same(home(floor), tuple(range(len(places(floor)))))

    def test_is_arrangement(self):
        for order in itertools.permutations(range(5)):
            self.assertIs(is_arrangement(FLOOR, order), True)
        for floor in FLOORS:
            self.assertIs(is_arrangement(floor=floor, thing=home(floor)), True)
            self.assertIs(is_arrangement(floor, home(floor)[::-1]), True)

    def test_is_no_arrangement(self):
        for thing in WRONG_ARRANGEMENTS:
            self.refuses(is_arrangement, FLOOR, thing)
            self.refuses(is_arrangement, floor=FLOOR, thing=thing)
        for many in range(4):
            for thing in itertools.product(range(-1, 4), repeat=many):
                self.assertIs(is_arrangement(POINTS, thing), sorted(thing) == [0, 1, 2])

    def test_wrong_floors(self):
        for call in [home]:
            for thing in WRONG_FLOORS:
                self.raises(BadFloor, thing, call, thing)
        for call in [is_arrangement, is_plan]:
            self.raises_in_order(call, FLOOR_SLOT, ("thing", None, [], None))


class Plans(Case):
    def test_is_plan(self):
        for plan in [(), CHANGE, NESTED, FOUR_DEEP, GREAT, (("beat", ()),), (("times", 0, ()),), (("times", 5, ()),)]:
            self.assertIs(is_plan(FLOOR, plan), True)
            self.assertIs(is_plan(floor=FLOOR, thing=plan), True)
        for floor in FLOORS:
            for call in itertools.islice(reference.calls((floor[0], floor[1][:8])), 300):
                self.assertIs(is_plan(floor, (("beat", call),)), True)
        self.assertIs(is_plan(FLOOR, (("times", 1, FOUR_DEEP),)), True)

    def test_is_no_plan(self):
        for thing in WRONG_PLANS:
            self.refuses(is_plan, FLOOR, thing)
            self.refuses(is_plan, floor=FLOOR, thing=thing)
        self.refuses(is_plan, BARE, CHANGE)
        self.refuses(is_plan, FLOOR, (("times", 1, (("times", 1, (("times", 1, (("times", 1, [])),)),)),)))

    def test_calls_as_defined(self):
        for many in range(4):
            for call in itertools.product(range(-1, 4), repeat=many):
                defined = list(call) == sorted(set(call)) and set(call) <= {0, 1, 2}
                self.assertIs(is_plan(TWO_PARTS, (("beat", call),)), defined, call)

    def test_beats_and_changes(self):
        twice = (("times", 10 ** 15, (("times", 10 ** 15, (("beat", ()), ("beat", (0,)))),)),)
        counts = [((), 0, 0), (CHANGE, 1, 1), (GREAT, 10 ** 30, 10 ** 30), (NESTED, 9, 7), (FOUR_DEEP, 38, 26),
                  ((("times", 0, CHANGE),), 0, 0), ((("times", 10 ** 30, ()),), 0, 0), ((("beat", ()),), 1, 0),
                  (twice, 2 * 10 ** 30, 10 ** 30)]
        for plan, beats, changes in counts:
            self.same(beats_of(FLOOR, plan), beats)
            self.same(beats_of(floor=FLOOR, plan=plan), beats)
            self.same(changes_of(FLOOR, plan), changes)
            self.same(changes_of(floor=FLOOR, plan=plan), changes)
        self.same(changes_of(TWO_PARTS, (("times", 5, (("beat", (0, 2)), ("beat", (0, 1, 2)))),)), 25)

    def test_unrolled(self):
        self.same(unrolled(FLOOR, (("times", 2, (("beat", (0,)), ("beat", ()))),)), ((0,), (), (0,), ()))
        self.same(unrolled(floor=FLOOR, plan=()), ())
        for floor in FLOORS:
            for plan in some_plans(floor, 30):
                self.same(unrolled(floor, plan), tuple(reference.rolled(plan)))

    def test_unrolled_two_thousand_and_one_more(self):
        self.same(unrolled(FLOOR, (("times", 2000, CHANGE),)), ((0,),) * 2000)
        self.same(unrolled(FLOOR, CHANGE * 1999 + (("beat", ()),)), ((0,),) * 1999 + ((),))
        self.same(unrolled(FLOOR, (("times", 40, (("times", 50, CHANGE),)),)), ((0,),) * 2000)
        for plan in [(("times", 2001, CHANGE),), CHANGE * 2001, (("times", 2000, CHANGE), ("beat", ())), GREAT]:
            for error in [self.raised(unrolled, FLOOR, plan), self.raised(unrolled, floor=FLOOR, plan=plan)]:
                self.assertIs(type(error), TooMany)
                self.same(error.most, 2000)

    def test_plans_without_beats_done_often(self):
        empty = (("times", 10 ** 30, (("times", 10 ** 30, ()), ("times", 0, GREAT))),)
        self.same(unrolled(FLOOR, empty), ())
        self.same(unrolled(FLOOR, empty + CHANGE + empty), ((0,),))
        self.same(beats_of(FLOOR, empty), 0)
        self.same(plan_map(FLOOR, empty), HOME)
        self.same(stands_at(FLOOR, empty, (1, 1), 0), (1, 1))
        self.same(stands_at(FLOOR, empty + CHANGE + empty, (0, 1), 1), (1, 0))

    def test_wrong_plans(self):
        for call in [beats_of, changes_of, plan_map, unrolled, plan_back]:
            self.raises_in_order(call, FLOOR_SLOT, PLAN_SLOT)


class Maps(Case):
    def test_document_examples(self):
        self.same(after(FLOOR, HOME, CHANGE), (4, 0, 1, 2, 3))
        self.same(before(FLOOR, (4, 0, 1, 2, 3), CHANGE), HOME)
        self.same(plan_map(FLOOR, CHANGE), (1, 2, 3, 4, 0))

    def test_by_name(self):
        self.same(after(floor=FLOOR, arrangement=HOME, plan=CHANGE), (4, 0, 1, 2, 3))
        self.same(before(floor=FLOOR, arrangement=(4, 0, 1, 2, 3), plan=CHANGE), HOME)
        self.same(plan_map(floor=FLOOR, plan=CHANGE), (1, 2, 3, 4, 0))

    def test_each_beat(self):
        for floor in [FLOOR, EVEN, SIX, BARE, POINT, POINTS, TWO_PARTS, CHAIN]:
            for call in reference.calls(floor):
                for one in [home(floor), home(floor)[::-1]]:
                    self.same(after(floor, one, (("beat", call),)), reference.beat(floor, one, call))

    def test_whole_plans(self):
        for floor in FLOORS:
            for plan in some_plans(floor, 40):
                one = tuple(random.Random(7).sample(home(floor), len(home(floor))))
                behind = reference.after(floor, one, plan)
                self.same(after(floor, one, plan), behind)
                self.same(before(floor, behind, plan), one)
                led = plan_map(floor, plan)
                self.same(tuple(behind[s] for s in led), one)

    def test_counts_of_ten_to_the_thirty(self):
        self.same(after(FLOOR, HOME, (("times", 10 ** 30 + 1, CHANGE),)), (4, 0, 1, 2, 3))
        self.same(before(FLOOR, (4, 0, 1, 2, 3), (("times", 10 ** 30 - 4, CHANGE),)), HOME)
        deep = (("times", 10 ** 30 + 3, CHANGE),)
        for _ in range(3):
            deep = (("times", 10 ** 30, deep),)
        self.same(plan_map(FLOOR, deep), HOME)
        self.same(plan_map(FLOOR, deep + CHANGE), (1, 2, 3, 4, 0))
        for floor in [EVEN, TWO_PARTS, CHAIN]:
            for plan in some_plans(floor, 10):
                order = 1
                while reference.after(floor, home(floor), plan * order) != home(floor):
                    order += 1
                few, many = [(("times", k, plan),) for k in (10 ** 30 % order, 10 ** 30)]
                self.same(plan_map(floor, many), plan_map(floor, few))

    def test_wrong(self):
        for call in [after, before]:
            self.raises_in_order(call, FLOOR_SLOT, ARRANGEMENT_SLOT, PLAN_SLOT)


class StandsAt(Case):
    def test_document_example(self):
        self.same(stands_at(FLOOR, GREAT, (0, 0), 10 ** 30 - 1), (1, 2))
        self.same(stands_at(t=10 ** 30 - 1, place=(0, 0), plan=GREAT, floor=FLOOR), (1, 2))

    def test_each_beat(self):
        for floor in FLOORS:
            for plan in some_plans(floor, 25) + [(("times", 3, (("times", 2, (("beat", ()),)), ("times", 0, ()))),)]:
                rows = [home(floor)]
                for call in reference.rolled(plan):
                    rows.append(reference.beat(floor, rows[-1], call))
                for t, row in list(enumerate(rows))[:: max(1, len(rows) // 10)] + [(len(rows) - 1, rows[-1])]:
                    for dancer, place in enumerate(places(floor)):
                        self.same(stands_at(floor, plan, place, t), places(floor)[row.index(dancer)])

    def test_no_beats_and_all(self):
        for plan in [(), NESTED, FOUR_DEEP, GREAT]:
            for s, place in enumerate(places(FLOOR)):
                self.same(stands_at(FLOOR, plan, place, 0), place)
                self.same(stands_at(FLOOR, plan, place, beats_of(FLOOR, plan)), places(FLOOR)[plan_map(FLOOR, plan)[s]])

    def test_very_many_beats(self):
        plan = (("times", 10 ** 15, (("times", 10 ** 14, NESTED), ("beat", ()), ("beat", (0,)))), ("beat", (0,)))
        once = 9 * 10 ** 14 + 2
        for full, rest in [(0, 9 * 10 ** 14 - 4), (10 ** 15 - 1, 9 * 10 ** 14 + 1), (10 ** 14 + 7, 9 * 10 ** 13 + 5)]:
            ahead = (("times", full, plan[0][2]),)
            nine = (("times", min(rest // 9, 10 ** 14), NESTED),)
            calls = unrolled(FLOOR, NESTED + plan[0][2][1:])
            rolled = calls[:rest % 9] if rest < 9 * 10 ** 14 else calls[9:9 + rest - 9 * 10 ** 14]
            told = ahead + nine + tuple(("beat", call) for call in rolled)
            self.assertEqual(beats_of(FLOOR, told), full * once + rest)
            for s, place in enumerate(places(FLOOR)):
                self.same(stands_at(FLOOR, plan, place, full * once + rest), places(FLOOR)[plan_map(FLOOR, told)[s]])

    def test_wrong(self):
        numbers = NO_INTEGERS + [-1, 10, 10 ** 99, -10 ** 99]
        self.raises_in_order(stands_at, FLOOR_SLOT, PLAN_SLOT, PLACE_SLOT, ("t", 9, numbers, BadNumber))
        self.raises(BadNumber, 2, stands_at, FLOOR, CHANGE, (0, 0), 2)
        self.raises(BadNumber, 1, stands_at, FLOOR, (), (0, 0), 1)
        self.raises(BadNumber, 10 ** 30 + 1, stands_at, FLOOR, GREAT, (0, 0), 10 ** 30 + 1)


class PlanBack(Case):
    def stand_for(self, floor, place):
        u, i = place
        return u, -i % floor[0][u]

    def test_plan_back(self):
        for floor in FLOORS:
            turned = backward(floor)
            for plan in some_plans(floor, 30):
                back = plan_back(floor, plan)
                self.assertIs(is_plan(turned, back), True)
                self.same(beats_of(turned, back), beats_of(floor, plan))
                for place in places(floor):
                    end = stands_at(floor, plan, place, beats_of(floor, plan))
                    begun = self.stand_for(floor, end)
                    self.same(stands_at(turned, back, begun, beats_of(turned, back)), self.stand_for(floor, place))

    def test_plan_back_of_a_great_plan(self):
        back = plan_back(floor=FLOOR, plan=GREAT)
        self.same(beats_of(backward(FLOOR), back), 10 ** 30)
        self.same(plan_map(backward(FLOOR), back), HOME)

    def test_plan_back_of_the_plan_back(self):
        for floor in FLOORS:
            for plan in some_plans(floor, 20):
                again = plan_back(backward(floor), plan_back(floor, plan))
                self.assertIs(is_plan(floor, again), True)
                self.same(beats_of(floor, again), beats_of(floor, plan))
                self.same(plan_map(floor, again), plan_map(floor, plan))


class Junk(Case):
    def test_any_value(self):
        for thing in JUNK:
            self.assertIs(is_plan(FORTY, thing), thing == ())
            self.assertIs(is_arrangement(FORTY, thing), False)
