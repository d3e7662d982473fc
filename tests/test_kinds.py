"""Kinds [6.5]: guises, where they can be led, certificates of them."""

import itertools
import math
import random

import reference
from samples import (BARE, CHAIN, CHANGE, Case, EVEN, FLOOR, FLOOR_SLOT, GREAT, JUNK, NESTED, PLAN_SLOT, POINT, POINTS,
                     SIX, TWO_PARTS, WRONG_FLOORS, few, led_by_chance, some_floors, spoiled)
from touchrings.called import called_rest
from touchrings.errors import BadFloor, BadKinds
from touchrings.figures import order_of
from touchrings.kinds import guise_after, judge_kinds, kind_rests, kinds_hold, many_guises
from touchrings.labels import part_numbers
from touchrings.plans import after, before, beats_of, home, plan_back, plan_map, stands_at

SMALL = [FLOOR, POINT, POINTS, EVEN, BARE, ((4,), (((0, 0), (0, 2)),)), ((5,), ()), ((2, 3), ()), ((2, 2, 2), ()),
         ((2, 2, 2), (((0, 0), (1, 1)),)), ((1, 3, 1), (((0, 0), (1, 1)), ((1, 2), (2, 0)))),
         ((3, 2), (((0, 0), (0, 1)),))]
WIDE = [((20,), ()), ((13, 7), (((0, 0), (1, 0)),)), ((10, 10), (((0, 0), (1, 0)),)),
        ((3, 4, 5, 8), (((0, 0), (2, 2)), ((1, 0), (3, 1)))), ((5, 15), (((0, 0), (1, 0)),))]
# For FLOOR, which has five places.
WRONG_GUISES = JUNK + spoiled((0, 1, 9, 1, 4)) + [
    (0, 1, 9, 1), (0, 1, 9, 1, 4, 0), (0, 1, 10, 1, 4), (0, -1, 9, 1, 4), (0, 1, 9, 1, 10 ** 99), (-10,) * 5,
    ((0, 1, 9, 1, 4),), (0, 1, (9, 1), 4), FLOOR,
]
GUISE = (3, 1, 9, 1, 0)
ONE_SLOT = ("one", GUISE, WRONG_GUISES, BadKinds)
OTHER_SLOT = ("other", (9, 9, 9, 0, 0), WRONG_GUISES, BadKinds)


def guises_of(floor, seed):
    """Guises of a floor: of one kind, of two, of all ten, of as many as there are places."""
    chance = random.Random(seed)
    many = sum(floor[0])
    kinds = [[7], [0, 9], [2, 2, 5], list(range(10))]
    found = [tuple(chance.choice(some) for _ in range(many)) for some in kinds]
    return found + [tuple(number % 10 for number in chance.sample(range(many), many))]


def late_guises(floor, guise):
    """The sets of guises behind 0, 1, .. beats, by all rows of calls, up to a round that comes again and again."""
    calls = reference.calls(floor)
    return reference.late_sets(guise, reference.round_length(floor),
                               lambda now, t: {reference.beat(floor, now, call) for call in calls})


def same_kinds(guise):
    """All guises with as many of each kind."""
    return sorted(set(itertools.permutations(guise)))


class Kinds(Case):
    def counts_are_right(self, floor, one, other, rows):
        """Each row tells of a class and a kind with unlike numbers [6.5], by the words of the document."""
        numbers, labels = reference.numbers_and_labels(floor)
        part_of = {u: p for p, lot in enumerate(reference.parts(floor)) for u in lot}
        marks = [(part_of[u], label) for (u, _), label in zip(reference.places(floor), labels)]
        self.assertEqual(len(rows), math.lcm(*numbers))
        for s, row in enumerate(rows):
            p, label, kind = row
            self.assertEqual([type(row), len(row)] + [type(item) for item in row], [tuple, 3, int, int, int])
            self.assertTrue(0 <= p < len(numbers) and 0 <= label < numbers[p] and 0 <= kind <= 9)
            here = [told for told, mark in zip(one, marks) if mark == (p, label)].count(kind)
            there = [told for told, mark in zip(other, marks) if mark == (p, (label + s) % numbers[p])].count(kind)
            self.assertNotEqual(here, there)

    def judged(self, floor, one, other):
        """The word of the certificate about two guises, which is right and is accepted."""
        told = judge_kinds(floor, one, other)
        self.assertIs(kinds_hold(floor, one, other, told), True)
        self.assertEqual(len(told), 2)
        self.assertEqual(told[0] == "plan", kind_rests(floor, one, other) != ())
        if told[0] == "plan":
            self.plan_is_small(floor, told[1])
            self.same(guise_after(floor, one, told[1]), other)
            if beats_of(floor, told[1]) < 5000:
                self.same(reference.after(floor, one, told[1]), other)
        else:
            self.assertEqual(told[0], "counts")
            self.counts_are_right(floor, one, other, told[1])
        return told[0]


class Guises(Kinds):
    def test_document_examples(self):
        self.same(guise_after(EVEN, (0, 1, 2, 3, 4, 5), CHANGE), (1, 2, 5, 0, 3, 4))
        self.same(kind_rests(EVEN, (0, 1, 0, 1, 0, 1), (1, 0, 1, 0, 1, 0)), (1,))
        self.same([many_guises(EVEN, (0, 1, 0, 1, 0, 1)), many_guises(EVEN, (0, 0, 0, 0, 0, 1))], [2, 6])

    def test_by_name(self):
        self.same(guise_after(plan=CHANGE, guise=(0, 1, 2, 3, 4, 5), floor=EVEN), (1, 2, 5, 0, 3, 4))
        self.same(kind_rests(other=(1, 0, 1, 0, 1, 0), one=(0, 1, 0, 1, 0, 1), floor=EVEN), (1,))
        self.same(many_guises(guise=(0, 0, 0, 0, 0, 1), floor=EVEN), 6)

    def test_guises_are_led_as_arrangements(self):
        for floor in SMALL + [CHAIN, TWO_PARTS]:
            plans = [(), (("beat", ()),), (("times", 3, (("beat", tuple(range(len(floor[1])))),)),)]
            for plan in plans + ([NESTED] if len(floor[1]) else []):
                for guise in guises_of(floor, 2):
                    self.same(guise_after(floor, guise, plan), reference.after(floor, guise, plan))
        self.same(guise_after(FLOOR, GUISE, GREAT), GUISE)
        self.same(guise_after(FLOOR, (0, 1, 2, 3, 4), GREAT + CHANGE), after(FLOOR, (0, 1, 2, 3, 4), CHANGE))

    def test_all_calls_gone_through(self):
        for floor in SMALL:
            step = math.lcm(*reference.numbers_and_labels(floor)[0])
            for guise in guises_of(floor, 3)[:5 if sum(floor[0]) < 6 else 3]:
                kept = late_guises(floor, guise)
                self.same(many_guises(floor, guise), len(set().union(*kept)))
                for other in same_kinds(guise)[::1 if sum(floor[0]) < 6 else 7] + [guise]:
                    late = reference.rests_in(kept, reference.round_length(floor), other)
                    self.same(kind_rests(floor, guise, other), tuple(sorted({t % step for t in late})))
                    self.assertEqual(late != [], any(other in row for row in kept))

    def test_floors_by_chance(self):
        for floor in [floor for floor in some_floors(60) if sum(floor[0]) <= 7]:
            step = math.lcm(*reference.numbers_and_labels(floor)[0])
            guise = guises_of(floor, 8)[2]
            kept = late_guises(floor, guise)
            self.same(many_guises(floor, guise), len(set().union(*kept)))
            for other in same_kinds(guise):
                late = reference.rests_in(kept, reference.round_length(floor), other)
                self.same(kind_rests(floor, guise, other), tuple(sorted({t % step for t in late})))

    def test_all_and_no_rests(self):
        for floor in SMALL + WIDE:
            step = math.lcm(*part_numbers(floor))
            one = (4,) * sum(floor[0])
            self.same(kind_rests(floor, one, one), tuple(range(step)))
            self.same(kind_rests(floor, one, one[1:] + (3,)), ())
            self.same(many_guises(floor, one), 1)
        self.same(kind_rests(EVEN, (0, 1, 0, 1, 0, 1), (0, 1, 0, 1, 0, 1)), (0,))
        self.same(kind_rests(SIX, (0, 1, 0, 1, 0, 2), (0, 0, 0, 1, 1, 2)), ())

    def test_many_guises_of_wide_floors(self):
        self.same(many_guises(WIDE[0], (0,) * 19 + (1,)), 20)
        self.same(many_guises(WIDE[0], (0, 1, 2, 3) * 5), 4)
        self.same(many_guises(WIDE[0], (0, 1, 2, 3, 4) * 4), 5)
        self.same(many_guises(WIDE[1], (0,) * 10 + (1,) * 10), math.comb(20, 10))
        self.same(many_guises(((2, 4), ()), (0, 1, 0, 1, 0, 1)), 2)
        self.same(many_guises(((2, 4), ()), (0, 1, 0, 0, 0, 1)), 4)
        self.same(many_guises(((2, 3), ()), (0, 1, 2, 3, 3)), 6)

    def test_guises_without_like_kinds_go_as_arrangements(self):
        for floor in SMALL:
            one = home(floor)
            for other in list(itertools.permutations(one))[::13]:
                told = called_rest(floor, one, other)
                self.same(kind_rests(floor, one, other), () if told is None else (told[0],))

    def test_wrong(self):
        self.raises_in_order(guise_after, few(FLOOR_SLOT), ("guise", GUISE, WRONG_GUISES, BadKinds), PLAN_SLOT)
        self.raises_in_order(kind_rests, few(FLOOR_SLOT), ONE_SLOT, OTHER_SLOT)
        self.raises_in_order(many_guises, FLOOR_SLOT, ("guise", GUISE, WRONG_GUISES, BadKinds))


class Certificates(Kinds):
    def test_document_example(self):
        rows = ((0, 0, 0), (0, 0, 0))
        self.assertIs(kinds_hold(EVEN, (0, 1, 0, 1, 0, 1), (0, 0, 0, 1, 1, 1), ("counts", rows)), True)

    def test_by_name(self):
        told = judge_kinds(other=(9, 1, 0, 3, 1), one=GUISE, floor=FLOOR)
        self.assertEqual(told[0], "plan")
        self.assertIs(kinds_hold(thing=told, other=(9, 1, 0, 3, 1), one=GUISE, floor=FLOOR), True)

    def test_all_others(self):
        words = set()
        for floor in SMALL:
            for guise in guises_of(floor, 5)[1:4]:
                kept = set().union(*late_guises(floor, guise))
                for other in same_kinds(guise)[::1 if sum(floor[0]) < 6 else 11] + [guise]:
                    self.assertEqual(self.judged(floor, guise, other) == "plan", other in kept)
                    words.add(self.judged(floor, guise, other))
                self.assertEqual(self.judged(floor, guise, tuple((kind + 1) % 10 for kind in guise))
                                 == "counts", len(set(guise)) < 10)
        self.assertEqual(words, {"plan", "counts"})

    def test_wide_floors(self):
        for floor in WIDE + [CHAIN, TWO_PARTS]:
            for guise in guises_of(floor, 6):
                self.assertEqual(self.judged(floor, guise, guise), "plan")
                self.assertEqual(self.judged(floor, guise, led_by_chance(floor, guise, 3)), "plan")
                self.judged(floor, guise, guise[::-1])
                self.judged(floor, guise, guise[1:] + guise[:1])

    def test_plans_may_be_passed_on(self):
        floor = WIDE[1]
        guise = guises_of(floor, 1)[4]
        plan = judge_kinds(floor, guise, guise[::-1])[1]
        self.same(guise_after(floor, guise, plan), guise[::-1])
        self.same(after(floor, before(floor, home(floor), plan), plan), home(floor))
        self.assertIs(type(order_of(floor, plan)), int)
        self.assertEqual(len(plan_back(floor, plan)), len(plan))
        end = stands_at(floor, plan, (0, 0), beats_of(floor, plan))
        self.same(reference.places(floor)[plan_map(floor, plan)[0]], end)

    def test_a_guise_led_to_itself(self):
        self.assertIs(kinds_hold(FLOOR, GUISE, GUISE, ("plan", ())), True)
        self.assertIs(kinds_hold(FLOOR, GUISE, GUISE, ("plan", (("times", 5, CHANGE),))), True)
        self.assertIs(kinds_hold(FLOOR, GUISE, GUISE, ("plan", CHANGE)), False)
        self.assertIs(kinds_hold(FLOOR, (1,) * 5, (1,) * 5, ("plan", CHANGE)), True)

    def test_all_triples(self):
        one, other = (0, 1, 0, 1, 2, 1), (0, 0, 2, 1, 1, 1)
        right = 0
        for floor, parts in [(EVEN, 1), (BARE, 2), (((2, 2, 2), ()), 3)]:
            numbers, labels = reference.numbers_and_labels(floor)
            step = math.lcm(*numbers)
            fit = judge_kinds(floor, one, other)[1]
            for s in range(step):
                for row in itertools.product(range(-1, 4), range(-1, 5), range(-1, 11)):
                    rows = fit[:s] + (row,) + fit[s + 1:]
                    try:
                        self.counts_are_right(floor, one, other, rows)
                        wanted = True
                    except AssertionError:
                        wanted = False
                    self.assertIs(kinds_hold(floor, one, other, ("counts", rows)), wanted)
                    right += wanted
        self.assertGreater(right, 20)

    def test_wrong_certificates(self):
        one, other = (0, 1, 0, 1, 0, 1), (0, 0, 0, 1, 1, 1)
        right = ("counts", ((0, 0, 0), (0, 1, 1)))
        self.assertIs(kinds_hold(EVEN, one, other, right), True)
        rows = right[1]
        wrong = [rows[:1], rows + rows[:1], (), rows[0], (rows[0], rows[1] + (0,)), (rows[0], rows[1][:2]), (rows,),
                 ((0, 0, 0), (0, 0, 2)), ((1, 0, 0), (0, 0, 0)), ((0, 2, 0), (0, 0, 0)), ((0, 0, 10), (0, 0, 0)),
                 ((-1, 0, 0), (0, 0, 0)), ((0, -1, 0), (0, 0, 0)), ((0, 0, -10), (0, 0, 0)), (None, rows[1])]
        wrong = [("counts", some) for some in wrong] + [right + (0,), right[:1], right[1:], rows, ("count", rows),
                                                        ("plan", rows), ("plan", ()), ("plan", (("beat", ()),))]
        for thing in JUNK + spoiled(right) + wrong:
            self.refuses(kinds_hold, EVEN, one, other, thing)
        # No counts bar what can be led, whatever the rows.
        for row in itertools.product([0], [0, 1], range(3)):
            self.refuses(kinds_hold, EVEN, one, one, ("counts", (row, row)))

    def test_wrong_plans(self):
        one, other = (0, 1, 2, 2, 2), (2, 0, 1, 2, 2)
        right = ("plan", CHANGE)
        self.same(guise_after(FLOOR, one, CHANGE), other)
        self.assertIs(kinds_hold(FLOOR, one, other, right), True)
        wrong = [("plan", plan) for plan in [(), (("beat", ()),), CHANGE * 2, (("beat", (1,)),), CHANGE[0]]]
        for thing in JUNK + spoiled(right) + wrong + [right + (0,), right[:1], right[1:], CHANGE, ("counts", CHANGE)]:
            self.refuses(kinds_hold, FLOOR, one, other, thing)
        self.assertIs(kinds_hold(FLOOR, one, other, ("plan", (("times", 10 ** 30 + 1, CHANGE),))), True)

    def test_wrong(self):
        self.raises_in_order(judge_kinds, few(FLOOR_SLOT), ONE_SLOT, OTHER_SLOT)
        self.raises_in_order(kinds_hold, few(FLOOR_SLOT), few(ONE_SLOT), OTHER_SLOT, ("thing", None, [], None))
        for thing in WRONG_FLOORS:
            self.raises(BadFloor, thing, judge_kinds, thing, None, None)
            self.raises(BadFloor, thing, kinds_hold, thing, None, None, None)
