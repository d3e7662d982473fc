"""Shifts [6.1], for all calls [6.2], certificates [6.3]."""

import itertools
import math
import random

import reference
from samples import (BARE, CHAIN, Case, EVEN, FLOOR, FLOORS, FLOOR_SLOT, JUNK, NO_INTEGERS, POINT, POINTS, SIX,
                     TWO_PARTS, WRONG_ARRANGEMENTS, WRONG_FLOORS, few, led_by_chance, mixed, some_floors, spoiled)
from touchrings.called import called_holds, called_rest, judge_called, plan_at, sure_beat
from touchrings.errors import BadArrangement, BadFloor, BadNumber, TooSoon
from touchrings.figures import meetings, order_of
from touchrings.floors import is_floor, places
from touchrings.plans import after, before, beats_of, changes_of, home, plan_back, plan_map, stands_at

# Of two parts with the numbers 2 and 4, of one part with a ring of one place, and of a ring that touches itself.
TWICE = ((2, 4), (((1, 0), (1, 2)),))
PAIRED = ((2, 2, 2), (((0, 0), (1, 1)),))
FOUR = ((4,), (((0, 0), (0, 2)),))
ONES = ((1, 3, 1), (((0, 0), (1, 1)), ((1, 2), (2, 0))))
SMALL = [FLOOR, POINT, POINTS, FOUR, ONES, ((5,), ()), ((2, 3), ()), ((3, 2), (((0, 0), (0, 1)),)), ((2, 2, 1), ())]
GREATER = [EVEN, SIX, BARE, TWICE, PAIRED]
WIDE = [((20,), ()), ((13, 7), (((0, 0), (1, 0)),)), ((9, 11), (((0, 8), (1, 3)), ((1, 0), (1, 5)))),
        ((10, 10), (((0, 0), (1, 0)),)), ((5, 15), (((0, 0), (1, 0)),)),
        ((3, 4, 5, 8), (((0, 0), (2, 2)), ((1, 0), (3, 1)))),
        ((2, 18), (((0, 0), (1, 0)),)), ((1,) * 20, tuple(((u, 0), (u + 1, 0)) for u in range(0, 20, 2))),
        ((3, 5, 7, 4, 1), (((0, 0), (1, 0)), ((1, 1), (2, 0)), ((2, 1), (3, 0))))]
HOME = (0, 1, 2, 3, 4)
ONE_SLOT = ("one", HOME, WRONG_ARRANGEMENTS, BadArrangement)
OTHER_SLOT = ("other", (4, 0, 1, 2, 3), WRONG_ARRANGEMENTS, BadArrangement)


def rests_of(floor, one):
    """The dict from each arrangement that can be called to the pair (rest, step) of its beats, by all rows of calls."""
    length = reference.round_length(floor)
    kept = reference.late_sets(one, length, lambda now, t: {reference.beat(floor, now, call)
                                                            for call in reference.calls(floor)})
    late = kept[-length:]
    found = {}
    for other in set().union(*late):
        beats = [len(kept) - length + t for t, row in enumerate(late) if other in row]
        step = [step for step in range(1, length + 1) if length % step == 0 and len(beats) * step == length
                and len({t % step for t in beats}) == 1][0]
        found[other] = (beats[0] % step, step)
    assert set().union(*kept) == set(found)
    return found


class Called(Case):
    def plan_is_right(self, floor, one, other, plan):
        self.plan_is_small(floor, plan)
        self.same(after(floor, one, plan), other)
        if beats_of(floor, plan) < 5000:
            self.same(reference.after(floor, one, plan), other)

    def shifts(self, floor, one, other):
        """For each dancer the pair of its shift and the number of its part, None if it is astray [6.1]."""
        numbers, labels = reference.numbers_and_labels(floor)
        part_of = {u: p for p, lot in enumerate(reference.parts(floor)) for u in lot}
        label = dict(zip(places(floor), labels))
        found = []
        for dancer in range(len(one)):
            x, y = [reference.place_of(floor, row, dancer) for row in (one, other)]
            number = numbers[part_of[x[0]]]
            shift = ((label[y] - label[x]) % number, number)
            found.append(shift if part_of[x[0]] == part_of[y[0]] else None)
        return found

    def bars(self, shifts, thing):
        """Whether a certificate of dancers that bar it is right, by its words."""
        if thing[0] == "astray":
            return len(thing) == 2 and shifts[thing[1]] is None
        one, other = shifts[thing[1]], shifts[thing[2]]
        if len(thing) != 3 or thing[1] >= thing[2] or one is None or other is None:
            return False
        return not any(t % one[1] == one[0] and t % other[1] == other[0] for t in range(one[1] * other[1]))


class Rests(Called):
    def test_document_examples(self):
        self.same(called_rest(EVEN, (0, 1, 2, 3, 4, 5), (2, 1, 0, 3, 4, 5)), (0, 2))
        self.same(called_rest(EVEN, (0, 1, 2, 3, 4, 5), (1, 0, 2, 3, 4, 5)), None)
        self.same(sure_beat(EVEN), 60)

    def test_all_calls_gone_through(self):
        for floor in SMALL + GREATER:
            for one in [home(floor), mixed(floor, 3)][:1 if floor in GREATER else 2]:
                told = rests_of(floor, one)
                for other in itertools.permutations(home(floor)):
                    self.same(called_rest(floor, one, other), told.get(other))

    def test_by_name(self):
        self.same(called_rest(other=(2, 1, 0, 3, 4, 5), one=(0, 1, 2, 3, 4, 5), floor=EVEN), (0, 2))
        self.same(sure_beat(floor=FLOOR), 60)

    def test_sure_beat(self):
        for floor in FLOORS + WIDE:
            many = sum(floor[0])
            self.same(sure_beat(floor), math.lcm(*floor[0]) * many * (many - 1) // 2)
        self.same(sure_beat(POINT), 0)

    def test_wrong(self):
        self.raises_in_order(called_rest, few(FLOOR_SLOT), ONE_SLOT, OTHER_SLOT)
        self.raises_in_order(sure_beat, FLOOR_SLOT)


class Certificates(Called):
    def test_document_examples(self):
        self.assertEqual(judge_called(EVEN, (0, 1, 2, 3, 4, 5), (2, 1, 0, 3, 4, 5))[0], "plan")
        self.assertIs(called_holds(EVEN, (0, 1, 2, 3, 4, 5), (1, 0, 2, 3, 4, 5), ("unlike", 1, 5)), True)

    def test_by_name(self):
        told = judge_called(other=(4, 0, 1, 2, 3), one=HOME, floor=FLOOR)
        self.assertIs(called_holds(thing=told, other=(4, 0, 1, 2, 3), one=HOME, floor=FLOOR), True)

    def judged(self, floor, one, other):
        told = judge_called(floor, one, other)
        self.assertIs(called_holds(floor, one, other, told), True)
        self.assertEqual(told[0] == "plan", called_rest(floor, one, other) is not None)
        if told[0] == "plan":
            self.assertEqual(len(told), 2)
            self.plan_is_right(floor, one, other, told[1])
        else:
            self.assertTrue(self.bars(self.shifts(floor, one, other), told))
        return told[0]

    def test_judge_called(self):
        kinds = set()
        for floor in SMALL:
            for other in list(itertools.permutations(home(floor)))[::3]:
                kinds.add(self.judged(floor, mixed(floor, 5), other))
        for floor in GREATER + [CHAIN, TWO_PARTS] + some_floors(40):
            for seed in range(6):
                one = mixed(floor, seed)
                kinds.add(self.judged(floor, one, mixed(floor, seed + 100)))
                self.assertEqual(self.judged(floor, one, led_by_chance(floor, one, seed)), "plan")
        self.assertEqual(kinds, {"plan", "astray", "unlike"})

    def test_dancers_that_shift_unlike(self):
        # Within one part, and of the parts with the numbers 2 and 2: rings that nothing ties.
        self.same(judge_called(((2,), ()), (0, 1), (0, 1))[0], "plan")
        self.same(judge_called(((3,), ()), (0, 1, 2), (0, 2, 1)), ("unlike", 0, 1))
        self.same(judge_called(((2, 2), ()), (0, 1, 2, 3), (0, 1, 3, 2)), ("unlike", 0, 2))
        self.same(judge_called(((2, 3), ()), HOME, (1, 0, 2, 3, 4)), ("plan", (("times", 3, (("beat", ()),)),)))
        self.assertEqual(judge_called(((2, 2), ()), (0, 1, 2, 3), (2, 1, 0, 3))[0], "astray")

    def test_all_certificates_of_dancers(self):
        right = 0
        for floor in [((2, 2), ()), ((1, 1, 2), ()), FOUR, ((2, 3), ()), TWICE, FLOOR]:
            one = mixed(floor, 8)
            for other in list(itertools.permutations(home(floor)))[::1 if sum(floor[0]) < 5 else 25]:
                shifts = self.shifts(floor, one, other)
                many = len(one)
                for d in range(-2, many + 2):
                    wanted = 0 <= d < many and self.bars(shifts, ("astray", d))
                    self.assertIs(called_holds(floor, one, other, ("astray", d)), wanted)
                    for e in range(-2, many + 2):
                        wanted = 0 <= d < many and 0 <= e < many and self.bars(shifts, ("unlike", d, e))
                        self.assertIs(called_holds(floor, one, other, ("unlike", d, e)), wanted)
                        right += wanted
        self.assertGreater(right, 100)

    def test_wide_floors(self):
        for floor in WIDE:
            self.assertTrue(is_floor(floor) and sum(floor[0]) <= 20)
            for seed in range(3):
                one = mixed(floor, seed)
                self.assertEqual(self.judged(floor, one, led_by_chance(floor, one, seed)), "plan")
                self.judged(floor, one, mixed(floor, seed + 9))
            self.assertEqual(self.judged(floor, home(floor), home(floor)), "plan")

    def test_plans_may_be_passed_on(self):
        floor = WIDE[1]
        one, other = home(floor), home(floor)[::-1]
        plan = judge_called(floor, one, other)[1]
        self.same(before(floor, other, plan), one)
        self.same(plan_map(floor, plan), home(floor)[::-1])
        self.same(order_of(floor, plan), 2)
        self.same(stands_at(floor, plan, (0, 0), beats_of(floor, plan)), (1, 6))
        self.assertIs(type(changes_of(floor, plan)), int)
        self.assertEqual(len(plan_back(floor, plan)), len(plan))
        self.assertEqual(meetings(floor, plan, (0, 0), (1, 0))[1] in (1, 2), True)
        self.assertIs(called_holds(floor, other, one, ("plan", plan)), True)

    def test_wrong_certificates(self):
        other = (4, 0, 1, 2, 3)
        right = ("plan", (("beat", (0,)),))
        self.assertIs(called_holds(FLOOR, HOME, other, right), True)
        wrong = [("plan", plan) for plan in [(), (("beat", ()),), right[1] * 2, (("beat", (1,)),), (("beat", (0, 0)),)]]
        wrong += [right + (0,), right[:1], right[1:], right[1], ("plans",) + right[1:], ("astray", 0), ("unlike", 0, 1),
                  ("plan", right), ("plan", (("times", 1, ("beat", (0,))),))]
        for thing in JUNK + spoiled(right) + wrong:
            self.refuses(called_holds, FLOOR, HOME, other, thing)
        self.assertIs(called_holds(FLOOR, HOME, other, ("plan", (("times", 10 ** 30 + 1, right[1]),))), True)
        self.assertIs(called_holds(FLOOR, HOME, other, ("plan", (("times", 10 ** 30, right[1]),))), False)

    def test_wrong_certificates_of_dancers(self):
        one = (0, 1, 2, 3, 4, 5)
        strayed, turned = (0, 5, 2, 3, 4, 1), (1, 0, 2, 3, 4, 5)
        for floor, other, right in [(EVEN, turned, ("unlike", 1, 5)), (BARE, strayed, ("astray", 5)),
                                    (BARE, strayed, ("astray", 1)), (BARE, turned, ("unlike", 0, 2))]:
            self.assertIs(called_holds(floor, one, other, right), True)
            wrong = [right + (0,), right[:-1], right[1:], right[:1], ("unlike", 5, 1), ("unlike", 1, 1),
                     ("astray", 0), ("astray", 6), ("astray", -1), ("unlike", 1, 6), ("unlike", -1, 5),
                     ("unlike", 0, 1), ("unlike", 1)]
            for thing in JUNK + spoiled(right) + wrong:
                self.refuses(called_holds, floor, one, other, thing)

    def test_wrong(self):
        self.raises_in_order(judge_called, few(FLOOR_SLOT), ONE_SLOT, OTHER_SLOT)
        self.raises_in_order(called_holds, few(FLOOR_SLOT), few(ONE_SLOT), OTHER_SLOT, ("thing", None, [], None))
        for thing in WRONG_FLOORS:
            self.raises(BadFloor, thing, judge_called, thing, None, None)
            self.raises(BadFloor, thing, called_holds, thing, None, None, None)


class PlanAt(Called):
    def too_soon(self, beat, *args, **named):
        error = self.raised(plan_at, *args, **named)
        self.assertIs(type(error), TooSoon)
        self.same(error.beat, beat)

    def test_document_examples(self):
        self.same(plan_at(EVEN, (0, 1, 2, 3, 4, 5), (2, 1, 0, 3, 4, 5), 61), None)
        self.too_soon(60, EVEN, (0, 1, 2, 3, 4, 5), (2, 1, 0, 3, 4, 5), 59)

    def test_one_beat_too_soon(self):
        for floor in SMALL[:1] + SMALL[2:] + GREATER:
            sure = sure_beat(floor)
            one, other = home(floor), mixed(floor, 1)
            for t in [sure - 1, 0, sure // 2]:
                self.too_soon(sure, floor, one, one, t)
                self.too_soon(sure, t=t, other=other, one=one, floor=floor)

    def at(self, floor, one, other, t):
        """The plan of t beats is there just if it fits, and is right."""
        plan = plan_at(floor, one, other, t)
        told = called_rest(floor, one, other)
        if told is None or t % told[1] != told[0]:
            self.assertIsNone(plan)
        else:
            self.assertIsNotNone(plan)
            self.same(beats_of(floor, plan), t)
            self.plan_is_right(floor, one, other, plan)
            self.assertIs(called_holds(floor, one, other, ("plan", plan)), True)
        return plan is None

    def test_from_the_sure_beat_on(self):
        for floor in SMALL + GREATER + some_floors(15):
            sure, length = sure_beat(floor), math.lcm(*floor[0])
            for seed in range(3):
                one = mixed(floor, seed)
                for other in [led_by_chance(floor, one, seed), mixed(floor, seed + 50)]:
                    for t in list(range(sure, sure + length + 1)) + [10 ** 30 - 1, 10 ** 30]:
                        self.at(floor, one, other, t)

    def test_wide_floors(self):
        for floor in WIDE:
            one = mixed(floor, 2)
            other = led_by_chance(floor, one, 4)
            rest, step = called_rest(floor, one, other)
            sure = sure_beat(floor)
            for t in [sure, sure + 1, sure + (rest - sure) % step, 10 ** 30, 10 ** 30 - (10 ** 30 - rest) % step]:
                self.at(floor, one, other, t)
            self.assertIs(self.at(floor, one, other, sure + (rest - sure) % step), False)

    def test_one_dancer(self):
        self.same(plan_at(POINT, (0,), (0,), 0), ())
        self.same(beats_of(POINT, plan_at(t=10 ** 30, other=(0,), one=(0,), floor=POINT)), 10 ** 30)

    def test_what_cannot_be_called(self):
        one = (0, 1, 2, 3, 4, 5)
        for t in range(60, 70):
            self.assertIsNone(plan_at(EVEN, one, (1, 0, 2, 3, 4, 5), t))

    def test_wrong(self):
        self.raises_in_order(plan_at, few(FLOOR_SLOT), few(ONE_SLOT), OTHER_SLOT,
                             ("t", 60, NO_INTEGERS + [-1, -10 ** 30], BadNumber))
        for thing in WRONG_FLOORS:
            self.raises(BadFloor, thing, plan_at, thing, None, None, None)
