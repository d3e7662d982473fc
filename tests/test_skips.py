"""Skips [10.1], skip numbers [10.2]."""

import itertools
import math
import random

import reference
from samples import (BARE, CHAIN, Case, EVEN, FLOOR, FLOOR_SLOT, JUNK, POINT, POINTS, SIX, TWO_PARTS,
                     WRONG_ARRANGEMENTS, WRONG_PLANS, few, mixed, size_of, some_floors, spoiled, without)
from touchrings.called import called_rest
from touchrings.errors import BadArrangement, BadPlan, BadSkips
from touchrings.floors import places
from touchrings.labels import part_numbers
from touchrings.plans import home, is_plan
from touchrings.skips import are_skips, judge_skipped, skip_numbers, skipped_after, skipped_hold

FAR = 10 ** 30
HOME = (0, 1, 2, 3, 4)
TWICE = ((2, 4), (((1, 0), (1, 2)),))
THREE = ((2, 2, 2), (((0, 0), (1, 1)),))
SMALL = [FLOOR, EVEN, BARE, POINT, POINTS, TWICE, THREE, ((4,), (((0, 0), (0, 2)),)), ((5,), ()), ((3, 3), ()),
         ((3, 3), (((0, 0), (1, 0)),)), ((1, 4), (((0, 0), (1, 1)),)), ((4, 2), (((0, 0), (0, 2)), ((0, 1), (0, 3))))]
# Of twelve places.
WIDE = [((12,), ()), ((6, 6), (((0, 0), (1, 0)),)), ((2, 4, 6), (((0, 0), (1, 0)), ((1, 2), (2, 4)))),
        ((3, 9), (((0, 1), (1, 2)),)), ((4, 4, 4), (((0, 0), (1, 0)), ((2, 0), (2, 2)))),
        ((1, 11), (((0, 0), (1, 5)),)),
        ((2, 2, 2, 2, 2, 2), (((0, 0), (1, 0)), ((1, 1), (2, 1)), ((3, 0), (4, 0))))]
NESTED = (("skip", 1), ("times", 2, (("times", 0, (("skip", 0),)), ("beat", (0,)), ("times", 3, (("skip", 0),)))))
# For FLOOR with the skips (0, 1) and (1, 2).
SKIPS = ((0, 1), (1, 2))
WRONG_SKIPS = without(JUNK, ()) + spoiled(SKIPS) + [
    ((0, 0),), ((0, 1001),), ((0, -1),), ((2, 1),), ((-1, 1),), ((0, 10 ** 99),), ((10 ** 99, 1),), ((0, 1), (0, 1)),
    ((1, 2), (0, 1)), ((0, 2), (0, 1)), (0, 1), ((0, 1, 1),), ((0,),), ((0, 1), 1), (((0, 1),),), ((0, "1"),), [(0, 1)],
    ((0, (1,)),), (("0", 1),), ("skip", 0),
]
WRONG_SKIP_PLANS = without(WRONG_PLANS, (("skip", 0),)) + spoiled(NESTED) + [
    (("skip", 2),), (("skip", -1),), (("skip", (0,)),), (("skip",),), (("skip", 0, 0),), ("skip", 0), (("skips", 0),),
    (("skip", 10 ** 99),), (("times", 2, (("skip", 2),)),), (("times", 2, ("skip", 0)),), (("skip", (0, 1)),),
]
SKIPS_SLOT = ("skips", SKIPS, WRONG_SKIPS, BadSkips)


def some_skips(floor, many):
    """Skips of a floor, made by chance, the same ones each time."""
    chance = random.Random(many)
    amounts = [1, 2, 3, 4, 6, 12, 999, 1000]
    found = [tuple(sorted({(chance.randrange(len(floor[0])), chance.choice(amounts))
                           for _ in range(chance.randrange(7))})) for _ in range(many)]
    return [()] + found


def put_on(floor, arrangement, skip):
    """The arrangement behind a skip [10.1], each step of the ring done by itself."""
    u, r = skip
    now = dict(zip(places(floor), arrangement))
    for _ in range(r % floor[0][u]):
        now = {reference.behind(floor, place) if place[0] == u else place: dancer for place, dancer in now.items()}
    return tuple(now[place] for place in places(floor))


def skipped(floor, skips, arrangement, plan):
    """The arrangement behind a skip plan, step by step."""
    for step in plan:
        if step[0] == "beat":
            arrangement = reference.beat(floor, arrangement, step[1])
        elif step[0] == "skip":
            arrangement = put_on(floor, arrangement, skips[step[1]])
        else:
            for _ in range(step[1]):
                arrangement = skipped(floor, skips, arrangement, step[2])
    return arrangement


def all_skipped(floor, skips, one):
    """All arrangements to which skip plans lead."""
    found, newest = {one}, {one}
    while newest:
        newest = ({reference.beat(floor, now, call) for now in newest for call in reference.calls(floor)}
                  | {put_on(floor, now, skip) for now in newest for skip in skips}) - found
        found |= newest
    return found


def greatest(numbers):
    """The greatest common divisor, found by trying."""
    return max(d for d in range(1, min(numbers) + 1) if all(number % d == 0 for number in numbers))


class Skipped(Case):
    def unlike(self, floor, skips, one, other):
        """For each two dancers that shift unlike with skips True, for each that is astray too [10.2]."""
        numbers, labels = reference.numbers_and_labels(floor)
        lots = reference.parts(floor)
        label = dict(zip(places(floor), labels))
        told = [greatest([number] + [r for u, r in skips if u in lot]) for lot, number in zip(lots, numbers)]
        found, shift, part = {}, {}, {}
        for d in home(floor):
            x, y = [reference.place_of(floor, row, d) for row in (one, other)]
            p, q = [[p for p, lot in enumerate(lots) if place[0] in lot][0] for place in (x, y)]
            shift[d], part[d] = (label[y] - label[x]) % numbers[p], p
            if p != q:
                found[d] = True
        for d, e in itertools.combinations([d for d in home(floor) if d not in found], 2):
            if part[d] == part[e] and len(lots[part[d]]) == 1:
                bad = shift[d] != shift[e]
            elif part[d] == part[e]:
                bad = shift[d] % told[part[d]] != shift[e] % told[part[d]]
            else:
                by = greatest([told[part[d]], told[part[e]]])
                bad = shift[d] % by != shift[e] % by
            if bad:
                found[d, e] = True
        return found

    def judged(self, floor, skips, one, other):
        """The word of the certificate about two arrangements, which is right and is accepted."""
        told = judge_skipped(floor, skips, one, other)
        self.assertIs(skipped_hold(floor, skips, one, other, told), True)
        bars = self.unlike(floor, skips, one, other)
        self.assertEqual(told[0] == "plan", bars == {})
        if told[0] == "plan":
            self.assertEqual(len(told), 2)
            depth, steps = size_of(told[1])
            self.assertTrue(depth <= 4 and steps <= 40000 and self.greatest_k(told[1]) <= FAR)
            self.same(skipped_after(floor, skips, one, told[1]), other)
            self.same(skipped(floor, skips, one, told[1]), other)
        elif told[0] == "astray":
            self.assertTrue(len(told) == 2 and bars[told[1]])
        else:
            self.assertTrue(told[0] == "unlike" and len(told) == 3 and bars[told[1:]])
        return told[0]

    def greatest_k(self, plan):
        return max([0] + [max(step[1], self.greatest_k(step[2])) for step in plan if step[0] == "times"])


class Skips(Skipped):
    def test_skips(self):
        for skips in [(), SKIPS, ((0, 1),), ((0, 1), (0, 2)), ((0, 1), (0, 1000), (1, 1)), ((1, 1000),)]:
            self.assertIs(are_skips(FLOOR, skips), True)
            self.assertIs(are_skips(thing=skips, floor=FLOOR), True)
        for u, r in itertools.product(range(-2, 4), [-1, 0, 1, 2, 999, 1000, 1001]):
            self.assertIs(are_skips(FLOOR, ((u, r),)), 0 <= u < 2 and 1 <= r <= 1000)

    def test_no_skips(self):
        for thing in WRONG_SKIPS:
            self.refuses(are_skips, FLOOR, thing)
        self.raises_in_order(are_skips, FLOOR_SLOT, ("thing", (), [], None))

    def test_document_examples(self):
        self.same([skip_numbers(EVEN, ((1, 1),)), skip_numbers(EVEN, ((1, 2),))], [(1,), (2,)])
        told = skipped_after(EVEN, ((1, 1),), (0, 1, 2, 3, 4, 5), (("skip", 0), ("skip", 0)))
        self.same(told, (0, 1, 4, 5, 2, 3))

    def test_by_name(self):
        self.same(skip_numbers(skips=((1, 1),), floor=EVEN), (1,))
        self.same(skipped_after(plan=(("skip", 0),), arrangement=HOME, skips=((1, 1),), floor=FLOOR), (0, 1, 4, 2, 3))

    def test_skip_numbers(self):
        for floor in SMALL + WIDE + [CHAIN, TWO_PARTS, SIX]:
            self.same(skip_numbers(floor, ()), part_numbers(floor))
            for skips in some_skips(floor, 8):
                wanted = [greatest([number] + [r for u, r in skips if u in lot])
                          for lot, number in zip(reference.parts(floor), part_numbers(floor))]
                self.same(skip_numbers(floor, skips), tuple(wanted))
        self.same(skip_numbers(((12,), ()), ((0, 8), (0, 1000))), (4,))
        self.same(skip_numbers(((12,), ()), ((0, 8), (0, 999))), (1,))

    def test_skip_plans(self):
        for floor in SMALL + [CHAIN, TWO_PARTS]:
            for skips in some_skips(floor, 6)[1:]:
                for plan in self.plans(floor, skips):
                    one = mixed(floor, 3)
                    self.same(skipped_after(floor, skips, one, plan), skipped(floor, skips, one, plan))

    def plans(self, floor, skips):
        """Skip plans of a floor, made by chance."""
        chance = random.Random(7)
        beats = [("beat", call) for call in reference.calls((floor[0], floor[1][:2]))]
        jumps = [("skip", i) for i in range(len(skips))]

        def steps(depth):
            found = [chance.choice(beats + jumps) for _ in range(chance.randrange(4))]
            return tuple(found + [("times", chance.randrange(4), steps(depth - 1))] if depth else found)
        return [(), tuple(jumps)] + [steps(depth) for depth in (0, 1, 2, 4)]

    def test_great_k(self):
        skips = ((0, 1), (1, 2))
        for k in [FAR, FAR + 1, FAR - 1, 10 ** 99]:
            for once in [(("skip", 1),), (("skip", 0), ("beat", (0,)), ("times", FAR, (("skip", 1),)))]:
                told = skipped_after(FLOOR, skips, HOME, (("times", k, once),))
                again = HOME
                for _ in range(k % 60):
                    again = skipped_after(FLOOR, skips, again, once)
                self.same(told, again)

    def test_a_skip_takes_all_dancers_of_its_ring(self):
        self.same(skipped_after(FLOOR, ((1, 1000),), HOME, (("skip", 0),)), (0, 1, 4, 2, 3))
        self.same(skipped_after(FLOOR, ((1, 999),), HOME, (("skip", 0),)), HOME)
        # No touch changes anybody at a skip.
        self.same(skipped_after(FLOOR, ((0, 1),), HOME, (("skip", 0),)), (1, 0, 2, 3, 4))

    def test_plans_of_floors_are_skip_plans_but_not_the_other_way(self):
        self.same(skipped_after(FLOOR, (), HOME, (("beat", (0,)),)), (4, 0, 1, 2, 3))
        self.assertIs(is_plan(FLOOR, (("skip", 0),)), False)
        self.raises(BadPlan, NESTED, skipped_after, FLOOR, (), HOME, NESTED)

    def test_wrong(self):
        self.raises_in_order(skip_numbers, FLOOR_SLOT, SKIPS_SLOT)
        self.raises_in_order(skipped_after, few(FLOOR_SLOT), few(SKIPS_SLOT),
                             ("arrangement", HOME, WRONG_ARRANGEMENTS, BadArrangement),
                             ("plan", NESTED, WRONG_SKIP_PLANS, BadPlan))


class Certificates(Skipped):
    def test_document_example(self):
        told = judge_skipped(EVEN, ((1, 1),), (0, 1, 2, 3, 4, 5), (1, 0, 2, 3, 4, 5))
        self.assertEqual(told[0], "plan")

    def test_by_name(self):
        told = judge_skipped(other=(4, 0, 1, 2, 3), one=HOME, skips=SKIPS, floor=FLOOR)
        self.assertIs(skipped_hold(thing=told, other=(4, 0, 1, 2, 3), one=HOME, skips=SKIPS, floor=FLOOR), True)

    def test_all_skip_plans_gone_through(self):
        words = set()
        for floor in SMALL + [floor for floor in some_floors(40) if sum(floor[0]) <= 6]:
            for skips in some_skips(floor, 4):
                one = mixed(floor, 6)
                found = all_skipped(floor, skips, one)
                others = list(itertools.permutations(home(floor)))
                for other in random.Random(2).sample(others, min(12, len(others))) + sorted(found)[::97]:
                    word = self.judged(floor, skips, one, other)
                    self.assertEqual(word == "plan", other in found)
                    words.add(word)
        self.assertEqual(words, {"plan", "astray", "unlike"})

    def test_without_skips_all_is_as_before(self):
        for floor in SMALL:
            one = mixed(floor, 1)
            for seed in range(12):
                other = mixed(floor, seed)
                told = judge_skipped(floor, (), one, other)
                self.assertEqual(told[0] == "plan", called_rest(floor, one, other) is not None)
                if told[0] == "plan":
                    self.assertIs(is_plan(floor, told[1]), True)

    def test_twelve_places(self):
        plans = 0
        for floor in WIDE:
            for skips in some_skips(floor, 6):
                one = mixed(floor, 4)
                chance = random.Random(9)
                for other in [one, mixed(floor, 5)]:
                    for _ in range(30):
                        jumps = [put_on(floor, other, skip) for skip in skips]
                        beats = [reference.beat(floor, other, call) for call in reference.calls(floor)]
                        other = chance.choice(beats + jumps)
                    plans += self.judged(floor, skips, one, other) == "plan"
                self.assertEqual(self.judged(floor, skips, one, one), "plan")
        self.assertGreater(plans, 45)

    def test_a_ring_alone_is_put_on_as_a_whole(self):
        one = (0, 1, 2, 3, 4)
        for floor in [((5,), ()), ((5,), (((0, 0), (0, 1)),))]:
            for other in [(1, 2, 3, 4, 0), (1, 0, 2, 3, 4)]:
                bare = floor[1] == () and other[1] == 0
                self.assertEqual(self.judged(floor, ((0, 1),), one, other), "unlike" if bare else "plan")
        # Of two rings alone the skips of one turn it against the other one.
        turned = (1, 0, 2, 3, 4, 5)
        self.assertEqual(self.judged(BARE, (), home(BARE), turned), "unlike")
        self.assertEqual(self.judged(BARE, ((0, 1),), home(BARE), turned), "plan")
        self.assertEqual(self.judged(BARE, ((1, 2),), home(BARE), turned), "unlike")
        self.assertEqual(self.judged(BARE, ((1, 1),), home(BARE), turned), "plan")
        self.assertEqual(self.judged(TWICE, ((1, 1),), home(BARE), (0, 1, 3, 2, 5, 4)), "plan")
        self.assertEqual(self.judged(TWICE, ((1, 2),), home(BARE), (0, 1, 3, 2, 5, 4)), "unlike")
        self.assertEqual(self.judged(TWICE, ((1, 1),), home(BARE), (0, 1, 3, 2, 4, 5)), "unlike")

    def test_unlike_parts_with_numbers_that_have_a_divisor(self):
        floor = ((4, 6), ())
        for skips in [(), ((0, 2),), ((1, 3),), ((0, 1000), (1, 2))]:
            for a, b in itertools.product(range(4), range(6)):
                other = put_on(floor, put_on(floor, home(floor), (0, a)), (1, b))
                self.judged(floor, skips, home(floor), other)
        self.assertEqual(self.judged(floor, (), home(floor), put_on(floor, home(floor), (1, 2))), "plan")
        self.assertEqual(self.judged(floor, (), home(floor), put_on(floor, home(floor), (1, 3))), "unlike")

    def test_two_skips_of_one_ring(self):
        floor = ((6, 6), (((0, 0), (1, 0)),))
        one = home(floor)
        other = (1, 0) + one[2:]
        self.assertEqual([self.judged(floor, skips, one, other) for skips in
                          [((0, 2),), ((0, 3),), ((0, 2), (0, 3)), ((0, 4), (0, 6)), ((0, 2), (1, 9)), ((1, 999),)]],
                         ["unlike", "unlike", "plan", "unlike", "plan", "unlike"])

    def test_all_certificates_of_dancers(self):
        right = 0
        for floor, skips in [(BARE, ((0, 1),)), (BARE, ((1, 2),)), (TWICE, ((1, 1),)), (THREE, ((2, 1),)), (EVEN, ()),
                             (((3, 3), (((0, 0), (1, 0)),)), ((0, 3),))]:
            one = mixed(floor, 8)
            for seed in range(8):
                other = mixed(floor, seed + 30)
                bars = self.unlike(floor, skips, one, other)
                for d in range(-2, 8):
                    self.assertIs(skipped_hold(floor, skips, one, other, ("astray", d)), d in bars)
                    for e in range(-2, 8):
                        wanted = (d, e) in bars
                        self.assertIs(skipped_hold(floor, skips, one, other, ("unlike", d, e)), wanted)
                        right += wanted
        self.assertGreater(right, 100)

    def test_wrong_plans(self):
        other = skipped_after(FLOOR, SKIPS, HOME, NESTED)
        right = ("plan", NESTED)
        self.assertIs(skipped_hold(FLOOR, SKIPS, HOME, other, right), True)
        self.assertIs(skipped_hold(FLOOR, SKIPS, other, other, right), False)
        wrong = [("plan", plan) for plan in [(), NESTED[:1], NESTED[1:], NESTED + (("skip", 0),), (("skip", 2),)]]
        wrong += [right + (0,), right[:1], right[1:], NESTED, ("plans", NESTED), ("astray", 0), ("unlike", 0, 1)]
        for thing in JUNK + [("plan", plan) for plan in WRONG_SKIP_PLANS] + wrong:
            self.refuses(skipped_hold, FLOOR, SKIPS, HOME, other, thing)
        self.assertIs(skipped_hold(FLOOR, SKIPS, HOME, HOME, ("plan", (("times", 6 * FAR, NESTED),))),
                      skipped_after(FLOOR, SKIPS, HOME, (("times", 6 * FAR, NESTED),)) == HOME)

    def test_wrong_certificates_of_dancers(self):
        one = (0, 1, 2, 3, 4, 5)
        strayed, turned = (0, 5, 2, 3, 4, 1), (1, 0, 2, 3, 4, 5)
        for floor, skips, other, right in [
                (EVEN, ((1, 2),), turned, ("unlike", 1, 5)), (BARE, (), strayed, ("astray", 5)),
                (BARE, ((1, 2),), turned, ("unlike", 0, 2))]:
            self.assertIs(skipped_hold(floor, skips, one, other, right), True)
            wrong = [right + (0,), right[:-1], right[1:], right[:1], ("unlike", 5, 1), ("unlike", 1, 1),
                     ("astray", 0), ("astray", 6), ("astray", -1), ("unlike", 1, 6), ("unlike", -1, 5),
                     ("unlike", 0, 1), ("unlike", 1)]
            for thing in JUNK + spoiled(right) + wrong:
                self.refuses(skipped_hold, floor, skips, one, other, thing)

    def test_wrong(self):
        one = ("one", HOME, WRONG_ARRANGEMENTS, BadArrangement)
        other = ("other", (4, 0, 1, 2, 3), WRONG_ARRANGEMENTS, BadArrangement)
        self.raises_in_order(judge_skipped, few(FLOOR_SLOT), few(SKIPS_SLOT), few(one), other)
        self.raises_in_order(skipped_hold, few(FLOOR_SLOT), SKIPS_SLOT, one, few(other), ("thing", None, [], None))
