"""Rules [9.1], made floors [9.2], ties of slots [9.3]."""

import itertools
import math
import random

import reference
from samples import (BARE, CHAIN, Case, EVEN, FLOOR, FLOOR_SLOT, JUNK, NO_INTEGERS, PLACE_SLOT, POINT, POINTS, SIX,
                     TWO_PARTS, WRONG_ARRANGEMENTS, few, mixed, some_floors, spoiled, without)
from touchrings.called import called_rest
from touchrings.errors import BadArrangement, BadNumber, BadPlan, BadRules, NotSettled
from touchrings.floors import is_floor, places
from touchrings.labels import classes
from touchrings.plans import after, home
from touchrings.ruled import are_rules, made_floor, ruled_after, ruled_rests, rules_round, settled_at, tied_lots

FAR = 10 ** 30
TWICE = ((3, 4), (((0, 0), (1, 1)), ((0, 2), (1, 0))))
INNER = ((5,), (((0, 0), (0, 2)), ((0, 1), (0, 4))))
SMALL = [FLOOR, EVEN, SIX, BARE, POINT, POINTS, TWICE, INNER, ((2, 2, 1), (((0, 1), (1, 0)), ((1, 1), (2, 0))))]
GREAT_ROUND = ((11, 5), (((0, 1), (1, 2)), ((0, 3), (1, 1)), ((0, 5), (1, 4)), ((0, 9), (1, 3)), ((0, 10), (1, 0))))
SIXTEEN = ((5, 4, 7), (((0, 0), (1, 0)), ((0, 2), (2, 3)), ((1, 2), (2, 6)), ((2, 0), (2, 2))))
RULES = ["call", "always", "never", ("every", 2, 0), ("every", 2, 1), ("every", 3, 2), ("every", 6, 0),
         ("every", 6, 5)]
HOME = (0, 1, 2, 3, 4)
# For FLOOR, which has one touch.
WRONG_RULES = JUNK + spoiled((("every", 3, 0),)) + spoiled(("call",)) + [
    "call", ["call"], ("call", "call"), (("call",),), ("called",), ("every",), (("every", 3),), (("every", 3, 0, 0),),
    (("every", 1, 0),), (("every", 7, 0),), (("every", 2, 2),), (("every", 6, 6),), (("every", 3, -1),),
    (("every", 0, 0),), (("every", -2, 0),), (("always", 2, 0),), (("every", 2, 10 ** 99),), (("every", 10 ** 99, 0),),
    (("Every", 2, 0),), (("every", "2", 0),), (["every", 2, 0],), (None,), (0,), (("call", 0),), ("",),
    ("every", 2, 0),
]
RULES_SLOT = ("rules", ("call",), WRONG_RULES, BadRules)


def some_rules(floor, many, *, words=tuple(RULES)):
    """Rules of a floor, made by chance, the same ones each time."""
    chance = random.Random(many)
    return [tuple(chance.choice(words) for _ in floor[1]) for _ in range(many)]


def without_every(floor, many):
    return some_rules(floor, many, words=("call", "always", "never", "call"))


def settled(floor, many):
    return some_rules(floor, many, words=tuple(RULES[1:]))


def beat_of(floor, rules, arrangement, call, t):
    """The arrangement behind the t-th beat with a ruled call [9.1]."""
    numbers = set(call)
    for number, rule in enumerate(rules):
        if rule == "always" or rule[0] == "every" and t % rule[1] == rule[2]:
            numbers.add(number)
    return reference.beat(floor, arrangement, sorted(numbers))


def ruled_calls(rules):
    """All ruled calls."""
    numbers = [number for number, rule in enumerate(rules) if rule == "call"]
    return [call for many in range(len(numbers) + 1) for call in itertools.combinations(numbers, many)]


def idle_rows(floor, rules):
    """The places of all dancers, who begin at home, behind 0, 1, .. beats without calls, up to a round [9.3]."""
    period = math.lcm(*[rule[1] for rule in rules if rule[0] == "every"])
    rows = [tuple(places(floor))]
    while len(rows) == 1 or rows[-1] != rows[0] or (len(rows) - 1) % period:
        rows.append(beat_of(floor, rules, rows[-1], (), len(rows)))
    return rows


def lots_of(floor, rules):
    """The lots of places that ties join [9.3]."""
    lots = [{place} for place in places(floor)]
    for row in idle_rows(floor, rules)[1:]:
        at = dict(zip(places(floor), row))
        for number, rule in enumerate(rules):
            if rule == "call":
                tied = set().union(*[lot for lot in lots if lot & {at[x] for x in floor[1][number]}])
                lots = [lot for lot in lots if not lot & tied] + [tied]
    return tuple(sorted(tuple(sorted(lot)) for lot in lots))


class Rules(Case):
    def test_rules(self):
        for rule in RULES + [("every", k, r) for k in range(2, 7) for r in range(k)]:
            self.assertIs(are_rules(FLOOR, (rule,)), True)
        for floor in SMALL + [CHAIN, TWO_PARTS]:
            for rules in some_rules(floor, 9):
                self.assertIs(are_rules(floor=floor, thing=rules), True)
                self.refuses(are_rules, floor, rules + ("call",))
                self.refuses(are_rules, floor, list(rules))
                self.assertIs(are_rules(floor, rules[1:]), len(floor[1]) == 0)
        self.assertIs(are_rules(BARE, ()), True)
        for k, r in itertools.product(range(-1, 9), range(-2, 9)):
            self.assertIs(are_rules(FLOOR, (("every", k, r),)), 2 <= k <= 6 and 0 <= r < k)

    def test_no_rules(self):
        for thing in WRONG_RULES:
            self.refuses(are_rules, FLOOR, thing)
        for thing in without(JUNK, ()):
            self.refuses(are_rules, BARE, thing)
        self.raises_in_order(are_rules, FLOOR_SLOT, ("thing", ("call",), [], None))

    def test_wrong_rules(self):
        for call in [rules_round, tied_lots, made_floor]:
            self.raises_in_order(call, FLOOR_SLOT, RULES_SLOT)


class RuledAfter(Case):
    def test_document_example(self):
        self.same(ruled_after(FLOOR, (("every", 2, 0),), HOME, ((), ())), (3, 1, 0, 4, 2))

    def test_by_name(self):
        self.same(ruled_after(calls=((), ()), arrangement=HOME, rules=(("every", 2, 0),), floor=FLOOR), (3, 1, 0, 4, 2))

    def test_as_defined(self):
        chance = random.Random(8)
        for floor in SMALL + [CHAIN, TWO_PARTS, SIXTEEN]:
            for rules in some_rules(floor, 12):
                calls = tuple(chance.choice(ruled_calls(rules)) for _ in range(chance.randrange(20)))
                now = mixed(floor, 5)
                self.same(ruled_after(floor, rules, now, ()), now)
                wanted = now
                for t, call in enumerate(calls):
                    wanted = beat_of(floor, rules, wanted, call, t + 1)
                self.same(ruled_after(floor, rules, now, calls), wanted)

    def test_all_called_goes_as_plans_do(self):
        for floor in SMALL + [CHAIN]:
            rules = ("call",) * len(floor[1])
            for call in reference.calls(floor):
                self.same(ruled_after(floor, rules, home(floor), (call, (), call)),
                          after(floor, home(floor), (("beat", call), ("beat", ()), ("beat", call))))

    def test_wrong_calls(self):
        floor = ((2, 4, 3), (((0, 0), (1, 0)), ((0, 1), (1, 1)), ((1, 2), (2, 0)), ((1, 3), (2, 1))))
        rules = ("call", "always", ("every", 2, 1), "call")
        right = ((0, 3), (), (3,))
        self.same(ruled_after(floor, rules, home(floor), right)[0] >= 0, True)
        wrong = [((1,),), ((0, 1),), ((2,),), ((0, 0),), ((3, 0),), ((4,),), ((-1,),), (0,), (0, 3), ((0, 3), 3),
                 ((10 ** 99,),), ((0, 3), (), (3,), (2,)), ((("beat", ()),)), [()], ([],)]
        for thing in without(JUNK, (), ((),)) + spoiled(right) + wrong:
            self.raises(BadPlan, thing, ruled_after, floor, rules, home(floor), thing)
        for rule in RULES[1:]:
            thing = ((0,),)
            self.raises(BadPlan, thing, ruled_after, FLOOR, (rule,), HOME, thing)

    def test_wrong(self):
        self.raises_in_order(ruled_after, few(FLOOR_SLOT), few(RULES_SLOT),
                             ("arrangement", HOME, WRONG_ARRANGEMENTS, BadArrangement),
                             ("calls", ((0,), ()), without(JUNK, (), ((),)), BadPlan))


class SettledAt(Case):
    def test_document_examples(self):
        self.same(settled_at(FLOOR, ("always",), (0, 0), FAR + 2), (1, 0))
        error = self.raised(settled_at, EVEN, ("call",), (0, 0), 1)
        self.assertIs(type(error), NotSettled)
        self.assertEqual(vars(error), {})

    def test_as_gone_through(self):
        for floor in SMALL + [CHAIN, TWO_PARTS, SIXTEEN]:
            for rules in settled(floor, 6):
                now = tuple(places(floor))
                for t in range(30):
                    for place in places(floor)[::3]:
                        self.same(settled_at(floor, rules, place, t), reference.place_of(floor, now, place))
                    now = beat_of(floor, rules, now, (), t + 1)

    def test_very_many_beats(self):
        for floor in SMALL + [SIXTEEN]:
            for rules in settled(floor, 6):
                rows = idle_rows(floor, rules)
                for t in [FAR, FAR - 1, FAR + 3, FAR // 7]:
                    now = rows[t % (len(rows) - 1)]
                    for place in places(floor)[::4]:
                        self.same(settled_at(t=t, place=place, rules=rules, floor=floor),
                                  reference.place_of(floor, now, place))

    def test_not_settled_is_told_last(self):
        floor, place = FLOOR, (0, 0)
        self.raises(BadNumber, None, settled_at, floor, ("call",), place, None)
        self.raises(BadNumber, -1, settled_at, floor, ("call",), place, -1)
        for rules in [("call", "always"), (("every", 2, 0), "call")]:
            self.assertIs(type(self.raised(settled_at, TWICE, rules, (0, 0), 0)), NotSettled)
        self.same(settled_at(BARE, (), (1, 0), FAR), (1, 0))

    def test_wrong(self):
        self.raises_in_order(settled_at, few(FLOOR_SLOT), ("rules", ("always",), WRONG_RULES, BadRules), PLACE_SLOT,
                             ("t", 3, NO_INTEGERS + [-1, -FAR], BadNumber))


class MadeFloors(Case):
    def test_document_example(self):
        wanted = (((5,), ()), ((0, 0), (0, 1), (0, 2), (0, 3), (0, 4)))
        self.same(made_floor(FLOOR, ("always",)), wanted)
        self.same(made_floor(rules=("always",), floor=FLOOR), wanted)

    def test_nothing_always(self):
        for floor in SMALL + [CHAIN]:
            self.same(made_floor(floor, ("call",) * len(floor[1])), (floor, places(floor)))
            self.same(made_floor(floor, ("never",) * len(floor[1])), ((floor[0], ()), places(floor)))

    def test_rings_joined_and_parted(self):
        # Within one ring a touch that always changes makes two rings of it, between two rings one of them.
        self.same(made_floor(((5,), (((0, 0), (0, 2)),)), ("always",)),
                  (((2, 3), ()), ((0, 0), (0, 1), (1, 0), (1, 1), (1, 2))))
        self.same(made_floor(((2, 2), (((0, 0), (1, 1)),)), ("always",))[0][0], (4,))
        self.same(made_floor(((4,), (((0, 0), (0, 2)),)), ("always",))[0], ((2, 2), ()))

    def test_as_defined(self):
        turned = 0
        for floor in SMALL + [CHAIN, TWO_PARTS, SIXTEEN] + some_floors(40):
            for rules in without_every(floor, 6):
                told = made_floor(floor, rules)
                self.same(told, made_by_words(floor, rules))
                self.assertIs(is_floor(told[0]), True)
                called = dict(zip(places(floor), told[1]))
                turned += any(called[x] > called[y] for x, y in floor[1])
        self.assertGreater(turned, 20)

    def test_what_can_be_called_is_the_same(self):
        for floor in SMALL + [TWO_PARTS, SIXTEEN] + some_floors(30):
            for rules in without_every(floor, 4):
                made, names = made_floor(floor, rules)
                seat_of = {place: s for s, place in enumerate(places(made))}
                called = dict(zip(places(floor), names))
                # The numbers of the touches on the made floor.
                there = {number: made[1].index(tuple(sorted(called[x] for x in floor[1][number])))
                         for number, rule in enumerate(rules) if rule == "call"}
                chance = random.Random(3)
                calls = tuple(chance.choice(ruled_calls(rules)) for _ in range(9))
                plan = tuple(("beat", tuple(sorted(there[number] for number in call))) for call in calls)
                start = mixed(floor, 2)
                moved = [None] * len(names)
                for dancer, name in zip(start, names):
                    moved[seat_of[name]] = dancer
                ends = after(made, tuple(moved), plan)
                self.same(ruled_after(floor, rules, start, calls), tuple(ends[seat_of[name]] for name in names))

    def test_wrong(self):
        for rule in RULES[3:]:
            for rules in [(rule, "call"), ("always", rule), (rule, rule)]:
                self.raises(BadRules, rules, made_floor, TWICE, rules)


def made_by_words(floor, rules):
    """The made floor and its places [9.2]: each ring from its least place on."""
    now = dict(zip(places(floor), beat_of(floor, rules, tuple(places(floor)), (), 1)))
    leads = {place: end for end, place in now.items()}
    names, rings = {}, []
    for place in places(floor):
        if place not in names:
            length = 0
            while place not in names:
                names[place] = (len(rings), length)
                place, length = leads[place], length + 1
            rings.append(length)
    called = [touch for touch, rule in zip(floor[1], rules) if rule == "call"]
    touches = sorted(tuple(sorted((names[x], names[y]))) for x, y in called)
    return (tuple(rings), tuple(touches)), tuple(names[place] for place in places(floor))


class Ties(Case):
    def test_document_examples(self):
        self.same(rules_round(FLOOR, (("every", 2, 0),)), 8)
        self.same(tied_lots(EVEN, ("call",)), (((0, 0), (1, 0), (1, 2)), ((0, 1), (1, 1), (1, 3))))
        six = (0, 1, 2, 3, 4, 5)
        self.same(ruled_rests(EVEN, ("call",), six, (2, 1, 0, 3, 4, 5)), (0, 2))

    def test_by_name(self):
        self.same(rules_round(rules=("never",), floor=FLOOR), 6)
        self.same(tied_lots(rules=("call",), floor=FLOOR), (places(FLOOR),))
        self.same(ruled_rests(other=HOME, one=HOME, rules=("always",), floor=FLOOR), (0,))

    def test_rounds_and_lots_as_defined(self):
        for floor in SMALL + [CHAIN, TWO_PARTS] + some_floors(30):
            for rules in some_rules(floor, 8):
                self.same(rules_round(floor, rules), len(idle_rows(floor, rules)) - 1)
                self.same(tied_lots(floor, rules), lots_of(floor, rules))

    def test_all_called(self):
        for floor in SMALL + [CHAIN, TWO_PARTS]:
            rules = ("call",) * len(floor[1])
            self.same(rules_round(floor, rules), reference.round_length(floor))
            self.same(tied_lots(floor, rules), classes(floor))

    def test_no_touches(self):
        self.same([rules_round(BARE, ()), rules_round(POINT, ())], [4, 1])
        self.same(tied_lots(BARE, ()), tuple((place,) for place in places(BARE)))
        self.same(ruled_rests(BARE, (), (0, 1, 2, 3, 4, 5), (1, 0, 3, 4, 5, 2)), (3,))
        self.same(ruled_rests(BARE, (), (0, 1, 2, 3, 4, 5), (1, 0, 2, 3, 4, 5)), ())

    def test_the_period_may_be_longer_than_the_cycles(self):
        # Nobody is anywhere else behind each beat, but the rules come again behind six of them only.
        self.same(rules_round(((1, 1), (((0, 0), (1, 0)),)), (("every", 6, 1),)), 12)
        self.same(rules_round(((1, 1, 1), (((0, 0), (1, 0)),)), (("every", 5, 0),)), 10)
        self.same(rules_round(((2, 2), (((0, 0), (1, 0)),)), (("every", 4, 3),)), len(
            idle_rows(((2, 2), (((0, 0), (1, 0)),)), (("every", 4, 3),))) - 1)

    def test_a_great_round(self):
        rules = (("every", 5, 2), "call", ("every", 4, 1), ("every", 6, 3), "always")
        self.same(rules_round(GREAT_ROUND, rules), 4200)
        self.assertEqual(len(idle_rows(GREAT_ROUND, rules)), 4201)
        self.same(tied_lots(GREAT_ROUND, rules), lots_of(GREAT_ROUND, rules))
        one = mixed(GREAT_ROUND, 1)
        for other in [one, ruled_after(GREAT_ROUND, rules, one, ((1,),) * 99)]:
            told = ruled_rests(GREAT_ROUND, rules, one, other)
            self.same(told, self.rests_by_words(GREAT_ROUND, rules, one, other))
            self.assertGreater(len(told), 0)
        settled_rules = rules[:1] + ("never",) + rules[2:]
        rows = idle_rows(GREAT_ROUND, settled_rules)
        self.same(settled_at(GREAT_ROUND, settled_rules, (1, 2), FAR + 9),
                  reference.place_of(GREAT_ROUND, rows[(FAR + 9) % (len(rows) - 1)], (1, 2)))

    def rests_by_words(self, floor, rules, one, other):
        """The rests by the second sentence of [9.3]."""
        lot_of = {place: lot for lot in lots_of(floor, rules) for place in lot}
        found = []
        for s, row in enumerate(idle_rows(floor, rules)[:-1]):
            back = dict(zip(places(floor), row))
            if all(lot_of[back[reference.place_of(floor, other, dancer)]]
                   == lot_of[reference.place_of(floor, one, dancer)] for dancer in one):
                found.append(s)
        return tuple(found)

    def test_all_ruled_calls_gone_through(self):
        for floor in SMALL + [((1, 3), (((0, 0), (1, 1)),)), ((4,), (((0, 0), (0, 1)), ((0, 2), (0, 3))))]:
            for rules in some_rules(floor, 5):
                if rules_round(floor, rules) <= 60 and sum(floor[0]) <= 6:
                    self.gone_through(floor, rules)

    def gone_through(self, floor, rules):
        one, length = mixed(floor, 9), rules_round(floor, rules)
        calls = ruled_calls(rules)
        kept = reference.late_sets(one, length, lambda now, t: {beat_of(floor, rules, now, call, t) for call in calls})
        found = set().union(*kept)
        others = list(found)[:40] + [mixed(floor, seed) for seed in range(20)]
        for other in others:
            self.same(ruled_rests(floor, rules, one, other), tuple(reference.rests_in(kept, length, other)))
            self.same(ruled_rests(floor, rules, one, other), self.rests_by_words(floor, rules, one, other))

    def test_all_called_goes_as_plans_do(self):
        for floor in SMALL:
            one, length = home(floor), reference.round_length(floor)
            for seed in range(9):
                other = mixed(floor, seed)
                told = called_rest(floor, one, other)
                wanted = () if told is None else tuple(range(told[0], length, told[1]))
                self.same(ruled_rests(floor, ("call",) * len(floor[1]), one, other), wanted)

    def test_wrong(self):
        self.raises_in_order(ruled_rests, few(FLOOR_SLOT), few(RULES_SLOT),
                             ("one", HOME, WRONG_ARRANGEMENTS, BadArrangement),
                             ("other", (4, 0, 1, 2, 3), WRONG_ARRANGEMENTS, BadArrangement))
