"""Figures done again and again [3.1], certificates [3.2], meetings [3.3]."""

import itertools
import math
import random

import reference
from samples import (BARE, CHAIN, CHANGE, Case, EVEN, FLOOR, FLOORS, FLOOR_SLOT, GREAT, JUNK, NO_INTEGERS, PLACE_SLOT,
                     PLAN_SLOT, POINT, POINTS, SIX, TWO_PARTS, WRONG_PLACES, few, some_plans, spoiled)
from touchrings.errors import BadFloor, BadPairs, BadPlace, BadPlan
from touchrings.figures import judge_times, meetings, order_of, times_all, times_at, times_hold
from touchrings.floors import places
from touchrings.plans import home

# Of the rings 2, 3, 1 with no touches, in one beat: the orders 2 and 3.
LOOSE = ((2, 3, 1), ())
BEAT = (("beat", ()),)
SMALL = [FLOOR, EVEN, SIX, POINTS, LOOSE, POINT]
WISHES = (((0, 0), (1, 2)), ((0, 1), (0, 0)))
# On LOOSE, by BEAT: the one in the middle is never kept, those ahead of it clash, and so do those behind it.
BARRED = (((0, 0), (0, 1)), ((0, 1), (0, 1)), ((1, 0), (0, 1)), ((1, 1), (1, 1)), ((1, 2), (1, 1)))
WRONG_WISHES = JUNK + spoiled(WISHES) + [
    (), (((0, 0), (1, 2)), ((0, 0), (1, 2))), (((0, 0), (1, 2)), ((0, 1), (0, 0)), ((0, 0), (0, 0))),
    (((0, 0), (1, 2)), ((0, 0), (0, 1))), (((0, 0), (1, 3)),), (((2, 0), (0, 0)),), (((0, 0),),), ((0, 0), (1, 2)),
    (((0, 0), (1, 2), (0, 1)),), (((0, 0), (-1, 0)),), (((0, -1), (0, 0)),), (((0, 0), 1),), (WISHES,), (WISHES[0], ()),
]
WISHES_SLOT = ("wishes", WISHES, WRONG_WISHES, BadPairs)


def row_of(floor, plan):
    """The arrangements behind 0, 1, .. times, until the first one would come again."""
    found = [home(floor)]
    while True:
        now = reference.after(floor, found[-1], plan)
        if now == found[0]:
            return found
        found.append(now)


def keepers(floor, row, wishes):
    """The numbers of times within one row that keep all wishes."""
    spots = places(floor)
    return [n for n, now in enumerate(row)
            if all(now[spots.index(y)] == spots.index(x) for x, y in wishes)]


def told_by(numbers, length):
    """The pair (rest, step) with the least step that tells just the numbers, which go on with a length, or None."""
    if not numbers:
        return None
    found = [(rest, step) for step in range(1, length + 1) for rest in range(step)
             if length % step == 0 and list(range(rest, length, step)) == numbers]
    return found[0]


class Order(Case):
    def test_order_of(self):
        self.same(order_of(FLOOR, CHANGE), 5)
        self.same(order_of(floor=FLOOR, plan=BEAT), 6)
        for floor in FLOORS:
            for plan in some_plans(floor, 15, 2):
                self.same(order_of(floor, plan), len(row_of(floor, plan)))

    def test_order_one(self):
        for plan in [(), (("times", 0, CHANGE),), (("times", 5, CHANGE),), (("times", 6 * 10 ** 29, BEAT),)]:
            self.same(order_of(FLOOR, plan), 1)
        self.same(order_of(POINT, BEAT), 1)

    def test_wrong(self):
        self.raises_in_order(order_of, FLOOR_SLOT, PLAN_SLOT)


class Times(Case):
    def test_document_examples(self):
        self.same(times_at(FLOOR, CHANGE, (0, 0), (1, 2)), (4, 5))
        self.same(times_all(FLOOR, CHANGE, WISHES), (4, 5))
        self.same(judge_times(FLOOR, CHANGE, (((0, 0), (0, 0)), ((0, 1), (1, 0)))), ("clash", 0, 1))

    def test_by_name(self):
        self.same(times_at(other=(1, 2), place=(0, 0), plan=CHANGE, floor=FLOOR), (4, 5))
        self.same(times_all(wishes=WISHES, plan=CHANGE, floor=FLOOR), (4, 5))
        self.same(judge_times(wishes=WISHES, plan=CHANGE, floor=FLOOR), ("times", 4))
        self.assertIs(times_hold(thing=("times", 4), wishes=WISHES, plan=CHANGE, floor=FLOOR), True)

    def test_a_place_for_itself(self):
        self.same(times_at(FLOOR, CHANGE, (0, 0), (0, 0)), (0, 5))
        self.same(times_at(FLOOR, (), (0, 0), (0, 0)), (0, 1))
        self.same(times_at(POINT, GREAT[:0], (0, 0), (0, 0)), (0, 1))
        self.assertIsNone(times_at(FLOOR, (), (0, 0), (0, 1)))

    def test_very_great_figures(self):
        self.same(times_at(FLOOR, (("times", 10 ** 30 + 1, CHANGE),), (0, 0), (1, 2)), (4, 5))
        self.same(times_at(FLOOR, (("times", 10 ** 30 - 1, CHANGE),), (0, 0), (1, 2)), (1, 5))
        self.same(times_at(FLOOR, GREAT, (0, 0), (0, 0)), (0, 1))

    def test_times_as_gone_through(self):
        for floor in SMALL:
            for plan in some_plans(floor, 12, 2):
                row = row_of(floor, plan)
                for x, y in itertools.product(places(floor), repeat=2):
                    wanted = told_by(keepers(floor, row, [(x, y)]), len(row))
                    self.same(times_at(floor, plan, x, y), wanted)
                    self.same(times_all(floor, plan, ((x, y),)), wanted)

    def test_several_wishes(self):
        kinds = set()
        chance = random.Random(3)
        for floor in SMALL:
            spots = places(floor)
            for plan in some_plans(floor, 5, 2) + [BEAT]:
                row = row_of(floor, plan)
                ends = [tuple(spots[now.index(s)] for s in range(len(now))) for now in row]
                for xs in [spots[:2], spots[::-2], spots]:
                    # Wishes that fall out as it happens are seldom kept, so some behind a told number of times, too.
                    for ys in [chance.choices(spots, k=len(xs)) for _ in range(25)] + ends[:4]:
                        wishes = tuple(zip(xs, ys))
                        numbers = keepers(floor, row, wishes)
                        self.same(times_all(floor, plan, wishes), told_by(numbers, len(row)))
                        kinds.add(self.judged(floor, plan, wishes, numbers))
        self.assertEqual(kinds, {"times", "never", "clash"})

    def judged(self, floor, plan, wishes, numbers):
        """The word of the certificate, which is looked at by the words of the document."""
        row = row_of(floor, plan)
        told = judge_times(floor, plan, wishes)
        self.assertIs(times_hold(floor, plan, wishes, told), True)
        self.assertEqual(told[0] == "times", bool(numbers))
        if told[0] == "times":
            self.assertIn(told[1] % len(row), numbers)
        elif told[0] == "never":
            self.assertEqual(keepers(floor, row, [wishes[told[1]]]), [])
        else:
            one, other = [keepers(floor, row, [wishes[at]]) for at in told[1:]]
            self.assertTrue(one and other and not set(one) & set(other) and told[1] < told[2])
        return told[0]

    def test_all_certificates(self):
        right = {"times": 0, "never": 0, "clash": 0}
        for floor, plan, wishes in [
                (LOOSE, BEAT, (((0, 0), (0, 1)), ((1, 0), (1, 2)))), (FLOOR, CHANGE, WISHES),
                (LOOSE, BEAT, BARRED),
                (FLOOR, (), (((0, 0), (0, 1)), ((1, 0), (1, 0))))]:
            row = row_of(floor, plan)
            alone = [keepers(floor, row, [wish]) for wish in wishes]
            for n in list(range(-2, 13)) + [10 ** 30, 10 ** 30 + 4, 10 ** 99, 10 ** 99 + 4]:
                kept = n >= 0 and all(n % len(row) in one for one in alone)
                self.hold(floor, plan, wishes, ("times", n), kept, right)
            for i in range(-2, 7):
                self.hold(floor, plan, wishes, ("never", i), 0 <= i < len(wishes) and not alone[i], right)
                for j in range(-2, 7):
                    clash = 0 <= i < j < len(wishes) and bool(alone[i] and alone[j])
                    clash = clash and not set(alone[i]) & set(alone[j])
                    self.hold(floor, plan, wishes, ("clash", i, j), clash, right)
        self.assertTrue(all(right.values()), right)

    def hold(self, floor, plan, wishes, thing, wanted, right):
        self.assertIs(times_hold(floor, plan, wishes, thing), wanted, (floor, plan, wishes, thing))
        right[thing[0]] += wanted

    def test_no_certificates(self):
        for wishes, right in [(WISHES, ("times", 4)), (BARRED, ("never", 2)), (BARRED, ("clash", 0, 1)),
                              (BARRED, ("clash", 3, 4))]:
            floor, plan = (FLOOR, CHANGE) if wishes is WISHES else (LOOSE, BEAT)
            self.assertIs(times_hold(floor, plan, wishes, right), True)
            wrong = [right + (0,), right[:-1], right[1:], (right,), ("times", 4, 0), ("never",), ("clash", 0),
                     ("clash", 1, 0), ("clash", 0, 0), ("times",)]
            for thing in JUNK + spoiled(right) + wrong:
                self.refuses(times_hold, floor, plan, wishes, thing)

    def test_wrong(self):
        self.raises_in_order(times_at, few(FLOOR_SLOT), few(PLAN_SLOT), PLACE_SLOT,
                             ("other", (0, 1), WRONG_PLACES, BadPlace))
        for call in [times_all, judge_times]:
            self.raises_in_order(call, few(FLOOR_SLOT), few(PLAN_SLOT), WISHES_SLOT)
        self.raises_in_order(times_hold, few(FLOOR_SLOT), few(PLAN_SLOT), WISHES_SLOT,
                             ("thing", ("times", 4), [], None))


class Meetings(Case):
    def test_document_examples(self):
        self.same(meetings(FLOOR, CHANGE, (0, 0), (0, 1)), ((), 1))
        self.same(meetings(FLOOR, CHANGE, (0, 0), (1, 0)), ((0,), 5))
        self.same(meetings(other=(1, 0), place=(0, 0), plan=CHANGE, floor=FLOOR), ((0,), 5))

    def test_always_and_never(self):
        self.same(meetings(FLOOR, (), (0, 0), (1, 0)), ((0,), 1))
        self.same(meetings(FLOOR, (), (1, 0), (0, 0)), ((0,), 1))
        self.same(meetings(FLOOR, (), (0, 1), (1, 0)), ((), 1))
        self.same(meetings(BARE, BEAT, (0, 1), (1, 0)), ((), 1))

    def test_steps_that_are_least(self):
        floor = ((2, 4), (((0, 0), (1, 0)), ((0, 1), (1, 2))))
        self.same(meetings(floor, BEAT, (0, 0), (1, 0)), ((0,), 4))
        both = ((4,), (((0, 0), (0, 1)), ((0, 2), (0, 3))))
        self.same(meetings(both, BEAT, (0, 0), (0, 1)), ((0,), 2))
        self.same(meetings(both, BEAT, (0, 3), (0, 0)), ((1,), 2))

    def test_meetings_as_gone_through(self):
        for floor in SMALL + [TWO_PARTS, CHAIN]:
            spots = places(floor)
            for plan in some_plans(floor, 6, 2) + [BEAT]:
                row = row_of(floor, plan)
                for x, y in itertools.permutations(spots[:7], 2):
                    pair = {spots.index(x), spots.index(y)}
                    met = [any({now[spots.index(a)], now[spots.index(b)]} == pair for a, b in floor[1]) for now in row]
                    steps = [step for step in range(1, len(row) + 1) if len(row) % step == 0
                             and all(met[n] == met[n % step] for n in range(len(row)))]
                    rests = tuple(n for n in range(steps[0]) if met[n])
                    self.same(meetings(floor, plan, x, y), (rests, steps[0]))

    def test_long_cycles(self):
        floor = ((19, 21), (((0, 3), (1, 8)),))
        rests, step = meetings(floor, (("times", 10 ** 30, BEAT),), (0, 0), (1, 0))
        self.assertEqual((len(rests), step), (1, 19 * 21))
        n = rests[0] * 10 ** 30
        self.assertEqual((n % 19, n % 21), (3, 8))
        self.assertEqual(order_of(floor, BEAT), math.lcm(19, 21))

    def test_wrong(self):
        self.raises_in_order(meetings, few(FLOOR_SLOT), few(PLAN_SLOT), PLACE_SLOT,
                             ("other", (0, 1), WRONG_PLACES, BadPlace))
        self.raises_in_order(meetings, ("floor", FLOOR, [None], BadFloor), ("plan", CHANGE, [None], BadPlan),
                             ("place", (1, 2), [None], BadPlace), ("other", (0, 1), [(1, 2)], BadPlace))
        for value in NO_INTEGERS:
            self.raises(BadPlace, value, meetings, FLOOR, CHANGE, (0, 0), value)
        self.raises(BadPlace, (9, 9), meetings, FLOOR, CHANGE, (9, 9), (9, 9))
