"""Sights [12.1], what is seen [12.2], claims [12.3]."""

import functools
import itertools
import random

import reference
from samples import Case, FLOOR, JUNK, WRONG_PLACES, few, spoiled, without
from touchrings.errors import BadPromise, BadRings, BadSights, Unfit
from touchrings.floors import places
from touchrings.plans import home
from touchrings.unseen import judge_sights, least_floor, sights_hold, sure

SIGHTS = ((0, 1, 2, 3, 4), (4, 0, 1, 2, 3))
SMALL = [(2, 3), (5,), (1, 1, 1), (2, 2), (1, 4), (1,), (4,), (1, 2, 2), (3, 1, 1)]
TEN = [(10,), (4, 6), (3, 3, 4), (1, 9), (2, 2, 2, 2, 2), (1,) * 10, (5, 5), (7, 3)]
WRONG_RINGS = without(JUNK, (0, 0, 0)) + spoiled((2, 3)) + [
    (0,), (2, 0), (-1, 2), (1,) * 41, ((2, 3),), (2, (3,)), ((2, 3), ()), [2, 3], (2, 3.5), (0, 0, 0),
]
WRONG_SIGHTS = JUNK + spoiled(SIGHTS) + [
    SIGHTS[:1], (SIGHTS,), SIGHTS + ((0, 1, 2, 3),), SIGHTS + ((0, 1, 2, 3, 3),), SIGHTS + ((1, 2, 3, 4, 5),),
    SIGHTS + ((0, 1, 2, 3, 4, 5),), SIGHTS + (None,), SIGHTS[0], (SIGHTS[0], SIGHTS[1] + (5,)), ((), ()),
    ((0, 1, 2, 3, -1), SIGHTS[1]), FLOOR,
]
WRONG_CLAIMS = JUNK + spoiled(("touch", (0, 0), (1, 2))) + spoiled(("free",)) + spoiled(("tied", (1, 2), (0, 0))) + [
    ("touch", (1, 2), (0, 0)), ("touch", (0, 0), (0, 0)), ("tied", (1, 1), (1, 1)), ("touch", (0, 0), (1, 3)),
    ("tied", (2, 0), (0, 0)), ("touch", (-1, 0), (0, 0)), ("free", (0, 0)), ("touch", (0, 0)), ("tied", (0, 0)),
    ("touch", (0, 0), (1, 0), (1, 1)), ("joined",), ("number", 1), ("tied",), ("touch",), "free", ("tied", 0, 1),
    ("apart", 0, 1), (("free",),),
]
RINGS_SLOT = ("rings", (2, 3), WRONG_RINGS, BadRings)
SIGHTS_SLOT = ("sights", SIGHTS, WRONG_SIGHTS, BadSights)


@functools.cache
def floors_on(rings):
    """All floors with these rings."""
    def pairings(spots):
        if not spots:
            return [()]
        found = pairings(spots[1:])
        for other in spots[1:]:
            rest = tuple(spot for spot in spots[1:] if spot != other)
            found = found + [((spots[0], other), *pairs) for pairs in pairings(rest)]
        return found
    return [(rings, tuple(sorted(pairs))) for pairs in pairings(tuple(places((rings, ()))))]


@functools.cache
def nexts(floor, now):
    """The arrangements to which one beat can lead."""
    return {reference.beat(floor, now, call) for call in reference.calls(floor)}


def fitting(rings, sights):
    """All floors that fit [12.1], by all calls."""
    return [floor for floor in floors_on(rings)
            if all(other in nexts(floor, one) for one, other in zip(sights, sights[1:]))]


def danced(rings, seed, many, calls=1.0):
    """The pair of a floor with these rings and of sights of it behind drawn calls."""
    chance = random.Random(seed)
    spots = list(places((rings, ())))
    chance.shuffle(spots)
    pairs = list(zip(spots[::2], spots[1::2]))[:chance.randrange(5)]
    floor = (rings, tuple(sorted(tuple(sorted(pair)) for pair in pairs)))
    now = tuple(chance.sample(home(floor), len(home(floor))))
    sights = [now]
    for _ in range(many - 1):
        numbers = [number for number in range(len(floor[1])) if chance.random() < calls / 2]
        now = reference.beat(floor, now, numbers)
        sights.append(now)
    return floor, tuple(sights)


def spoilt(sights, seed):
    """Sights of which one has two dancers exchanged."""
    chance = random.Random(seed)
    at = chance.randrange(len(sights))
    row = list(sights[at])
    s, r = [chance.randrange(len(row)) for _ in range(2)]
    row[s], row[r] = row[r], row[s]
    return sights[:at] + (tuple(row),) + sights[at + 1:]


def restless(rings, seed, many):
    """Sights of a floor whose touches are other ones at each beat."""
    _, (now, _) = danced(rings, seed, 2)
    sights = [now]
    for at in range(many - 1):
        floor, _ = danced(rings, seed + 1000 * at, 2)
        sights.append(reference.beat(floor, sights[-1], range(len(floor[1]))))
    return tuple(sights)


def samples(rings, many):
    """Sights of these rings: of floors, spoilt ones, ones whose touches change, and ones that fall out by chance."""
    found = []
    for seed in range(many):
        _, sights = danced(rings, seed, 2 + seed % 4)
        found += [sights, spoilt(sights, seed), restless(rings, seed, 4)]
        chance = random.Random(seed)
        found.append(tuple(tuple(chance.sample(sights[0], len(sights[0]))) for _ in range(2)))
    return found


def claims_of(rings):
    spots = places((rings, ()))
    return ([("free",)] + [("touch", x, y) for x, y in itertools.combinations(spots, 2)]
            + [("tied", x, y) for x, y in itertools.permutations(spots, 2)])


def holds(floor, claim):
    """Whether a claim holds for a floor [12.3]."""
    if claim[0] == "free":
        return reference.is_free(floor)
    if claim[0] == "touch":
        return claim[1:] in floor[1]
    return any(claim[1] in lot and claim[2] in lot for lot in reference.classes(floor))


class Unseen(Case):
    def led(self, rings, one, other):
        """The dict from each place to the place where the dancer stands whose step led there."""
        floor = (rings, ())
        return {reference.behind(floor, reference.place_of(floor, one, dancer)):
                reference.place_of(floor, other, dancer) for dancer in one}

    def bar_is_right(self, rings, sights, told):
        """Whether a tuple of the right kinds of values is a certificate of what bars all floors [12.2]."""
        beats = [self.led(rings, one, other) for one, other in zip(sights, sights[1:])]
        spots = places((rings, ()))
        if told[0] == "strange":
            _, t, x = told
            if not 1 <= t <= len(beats) or x not in spots:
                return False
            y = beats[t - 1][x]
            return y != x and beats[t - 1][y] != x
        _, t, s, x = told
        if not 1 <= t < s <= len(beats) or x not in spots:
            return False
        y, z = beats[t - 1][x], beats[s - 1][x]
        return x not in (y, z) and beats[t - 1][y] == x and beats[s - 1][z] == x and y != z

    def unfit(self, rings, sights, call, *rest):
        """Unfit is raised, with a right certificate."""
        error = self.raised(call, rings, sights, *rest)
        self.assertIs(type(error), Unfit)
        self.assertEqual(sorted(vars(error)), ["certificate"])
        self.assertTrue(self.bar_is_right(rings, sights, error.certificate))
        self.assertIs(sights_hold(rings, sights, error.certificate), True)


class Seen(Unseen):
    def test_document_examples(self):
        self.same(least_floor((2, 3), SIGHTS), ((2, 3), (((0, 0), (1, 0)),)))
        self.assertIs(sights_hold((2, 3), ((0, 1, 2, 3, 4), (0, 1, 2, 3, 4)), ("strange", 1, (1, 0))), True)

    def test_by_name(self):
        self.same(least_floor(sights=SIGHTS, rings=(2, 3)), ((2, 3), (((0, 0), (1, 0)),)))
        told = judge_sights(sights=SIGHTS, rings=(2, 3))
        self.same(told, ("touches", (((0, 0), (1, 0)),)))
        self.assertIs(sights_hold(thing=told, sights=SIGHTS, rings=(2, 3)), True)

    def test_all_floors_gone_through(self):
        words = set()
        for rings in SMALL:
            for sights in samples(rings, 12):
                fit = fitting(rings, sights)
                told = judge_sights(rings, sights)
                words.add(told[0])
                self.assertIs(sights_hold(rings, sights, told), True)
                self.assertEqual(told[0] == "touches", fit != [])
                if fit:
                    least = set(fit[0][1]).intersection(*[floor[1] for floor in fit])
                    self.same(told, ("touches", tuple(sorted(least))))
                    self.same(least_floor(rings, sights), (rings, told[1]))
                    self.assertIn((rings, told[1]), fit)
                else:
                    self.assertTrue(self.bar_is_right(rings, sights, told))
                    self.unfit(rings, sights, least_floor)
                    self.unfit(rings, sights, sure, ("free",))
        self.assertEqual(words, {"touches", "strange", "two"})

    def test_ten_places_and_twelve_sights(self):
        barred = 0
        for rings in TEN:
            for seed in range(12):
                floor, sights = danced(rings, seed, 12)
                told = judge_sights(rings, sights)
                self.assertEqual(told[0], "touches")
                self.assertLessEqual(set(told[1]), set(floor[1]))
                self.assertIs(sights_hold(rings, sights, told), True)
                wrong = spoilt(sights, seed)
                for sights in [wrong, restless(rings, seed, 12)]:
                    told = judge_sights(rings, sights)
                    self.assertIs(sights_hold(rings, sights, told), True)
                    if told[0] != "touches":
                        barred += 1
                        self.assertTrue(self.bar_is_right(rings, sights, told))
        self.assertGreater(barred, 60)

    def test_two_sights_alone(self):
        self.same(judge_sights((1,), ((0,), (0,))), ("touches", ()))
        self.same(judge_sights((1, 1), ((0, 1), (1, 0))), ("touches", (((0, 0), (1, 0)),)))
        self.assertEqual(judge_sights((1, 1, 1), ((0, 1, 2), (1, 2, 0)))[0], "strange")

    def test_all_bars(self):
        right = {"strange": 0, "two": 0}
        for rings in [(2, 3), (1, 1, 2), (4,), (1, 1, 1, 1)]:
            spots = list(places((rings, ()))) + [(0, rings[0]), (len(rings), 0), (-1, 0)]
            for sights in samples(rings, 10)[1:12] + [((0, 1, 2, 3)[:sum(rings)],) * 2] * (sum(rings) == 4):
                for x in spots:
                    for t in range(-1, len(sights) + 2):
                        thing = ("strange", t, x)
                        wanted = self.bar_is_right(rings, sights, thing)
                        self.assertIs(sights_hold(rings, sights, thing), wanted)
                        right["strange"] += wanted
                        for s in range(-1, len(sights) + 2):
                            thing = ("two", t, s, x)
                            wanted = self.bar_is_right(rings, sights, thing)
                            self.assertIs(sights_hold(rings, sights, thing), wanted)
                            right["two"] += wanted
        self.assertTrue(min(right.values()) > 20)

    def test_two_behind_the_first_beat_and_the_last_one(self):
        # On rings of one place each nobody is led anywhere by a step.
        sights = ((0, 1, 2), (1, 0, 2), (1, 0, 2), (0, 1, 2), (2, 1, 0))
        told = judge_sights((1, 1, 1), sights)
        self.assertEqual(told[0], "two")
        for t, s, wanted in [(1, 4, True), (3, 4, True), (4, 1, False), (1, 1, False), (1, 3, False), (2, 4, False),
                             (1, 5, False), (0, 4, False), (4, 4, False)]:
            self.assertIs(sights_hold((1, 1, 1), sights, ("two", t, s, (0, 0))), wanted)
            self.assertIs(sights_hold((1, 1, 1), sights, ("two", t, s, (1, 0))), False)

    def test_two_whoever_else_changed(self):
        # Behind the second beat others change in a ring of three, which is strange.
        sights = ((0, 1, 2, 3, 4, 5), (1, 0, 2, 3, 4, 5), (2, 0, 1, 4, 5, 3))
        self.assertIs(sights_hold((1,) * 6, sights, ("two", 1, 2, (0, 0))), True)
        self.assertIs(sights_hold((1,) * 6, sights, ("strange", 2, (3, 0))), True)
        self.assertIs(sights_hold((1,) * 6, sights, ("strange", 2, (0, 0))), False)
        self.assertIs(sights_hold((1,) * 6, sights, ("two", 1, 2, (1, 0))), False)

    def test_two_changed_by_two_both_times(self):
        # On rings of one place: two who change, and then three of whom each stands where the next one stood.
        rings, one = (1,) * 4, (0, 1, 2, 3)
        for round_of_three in [(1, 2, 0, 3), (2, 0, 1, 3)]:
            later = tuple((1, 0, 2, 3)[at] for at in round_of_three)
            for sights in [(one, (1, 0, 2, 3), later), (one, round_of_three, (2, 1, 0, 3))]:
                for x in places((rings, ())):
                    self.assertIs(sights_hold(rings, sights, ("two", 1, 2, x)),
                                  self.bar_is_right(rings, sights, ("two", 1, 2, x)))
                    self.assertIs(sights_hold(rings, sights, ("two", 1, 2, (3, 0))), False)
            # Of no floor at all are the pairs of places seen touches.
            for sights in [(one, round_of_three), (one, round_of_three, one)]:
                for touches in [floor[1] for floor in floors_on(rings)]:
                    self.assertIs(sights_hold(rings, sights, ("touches", touches)), False)

    def test_wrong_certificates(self):
        strange = ((0, 1, 2, 3, 4), (0, 1, 2, 3, 4))
        two = ((0, 1, 2), (1, 0, 2), (2, 0, 1))
        for rings, sights, right in [((2, 3), SIGHTS, ("touches", (((0, 0), (1, 0)),))),
                                     ((2, 3), strange, ("strange", 1, (1, 0))),
                                     ((1, 1, 1), two, ("two", 1, 2, (0, 0)))]:
            self.assertIs(sights_hold(rings, sights, right), True)
            wrong = [right + (0,), right[:1], right[1:], right[:-1], (right[0] + "s",) + right[1:], ("touches", ()),
                     ("touches", (((1, 0), (0, 0)),)), ("touches", (((0, 0), (1, 0)), ((0, 1), (1, 1)))),
                     ("touches", (((0, 1), (1, 0)),)), ("strange", 0, (1, 0)), ("strange", 2, (1, 0)),
                     ("strange", 1, (2, 1)), ("strange", (1, 0), 1), ("two", 2, 1, (0, 0)), ("two", 1, 1, (0, 0)),
                     ("two", 1, 2, (0, 1)), ("two", 1, 3, (0, 0)), ("strange", 10 ** 99, (1, 0)),
                     ("strange", 1, (0, 9)),
                     ("two", -2, -1, (0, 0)), ("strange", -1, (1, 0))]
            for thing in JUNK + spoiled(right) + wrong:
                self.refuses(sights_hold, rings, sights, thing)

    def test_wrong(self):
        for call in [judge_sights, least_floor]:
            self.raises_in_order(call, RINGS_SLOT, SIGHTS_SLOT)
        self.raises_in_order(sights_hold, few(RINGS_SLOT), SIGHTS_SLOT, ("thing", None, [], None))


class Claims(Unseen):
    def test_document_examples(self):
        self.same(sure((2, 3), SIGHTS, ("free",)), True)
        self.same(sure((2, 3), SIGHTS, ("touch", (0, 1), (1, 1))), None)
        self.same(sure((2, 3), SIGHTS, ("touch", (0, 0), (1, 1))), False)
        self.same(sure(claim=("free",), sights=SIGHTS, rings=(2, 3)), True)

    def test_all_floors_gone_through(self):
        told = {}
        for rings in SMALL:
            for sights in [danced(rings, seed, 2 + seed % 3)[1] for seed in range(14)]:
                fit = fitting(rings, sights)
                for claim in claims_of(rings):
                    held = {holds(floor, claim) for floor in fit}
                    wanted = held.pop() if len(held) == 1 else None
                    self.same(sure(rings, sights, claim), wanted)
                    told.setdefault(claim[0], set()).add(wanted)
        self.assertEqual(told, {word: {True, False, None} for word in ["free", "touch", "tied"]})

    def test_ten_places(self):
        known = {((10,), True), ((1,) * 10, False), ((2, 2, 2, 2, 2), None), ((1, 9), None), ((5, 5), None)}
        for rings, wanted in known:
            floor = (rings, ())
            one = home(floor)
            sights = (one, reference.beat(floor, one, ()))
            if wanted is True:
                floor = (rings, (((0, 0), (0, 1)),))
                sights = (one, reference.beat(floor, one, (0,)))
            self.same(sure(rings, sights, ("free",)), wanted)
        for rings in TEN:
            _, sights = danced(rings, 3, 12)
            for claim in claims_of(rings)[::7]:
                self.assertIn(sure(rings, sights, claim), [True, False, None])

    def test_one_place_left(self):
        # Of the other ring no place can touch any more.
        rings, floor = (1, 5), ((1, 5), (((0, 0), (1, 4)),))
        one = home(floor)
        sights = (one, reference.beat(floor, one, (0,)))
        self.same(sure(rings, sights, ("touch", (0, 0), (1, 0))), False)
        self.same(sure(rings, sights, ("touch", (1, 0), (1, 3))), None)
        self.same(sure(rings, sights, ("tied", (1, 0), (0, 0))), True)
        self.same([sure((4,), ((0, 1, 2, 3), (3, 0, 1, 2)), ("tied", (0, 0), (0, i))) for i in (1, 2)], [None, None])
        # Two exchanged places of a ring of four are of one class, the number being 2; nothing joins the other one.
        floor = ((4, 1, 1), (((0, 0), (0, 2)), ((0, 1), (0, 3)), ((1, 0), (2, 0))))
        sights = (home(floor), reference.beat(floor, home(floor), (0, 1, 2)))
        self.same([sure(floor[0], sights, claim) for claim in
                   [("tied", (0, 0), (0, 2)), ("tied", (0, 0), (0, 1)), ("tied", (2, 0), (1, 0)), ("free",)]],
                  [True, False, True, False])

    def test_unfit_is_told_last(self):
        sights = ((0, 1, 2, 3, 4), (0, 1, 2, 3, 4))
        for claim in WRONG_CLAIMS:
            self.raises(BadPromise, claim, sure, (2, 3), sights, claim)
        for claim in claims_of((2, 3)):
            self.unfit((2, 3), sights, sure, claim)

    def test_wrong(self):
        self.raises_in_order(sure, RINGS_SLOT, few(SIGHTS_SLOT), ("claim", ("free",), WRONG_CLAIMS, BadPromise))
        for place in WRONG_PLACES:
            for claim in [("touch", (0, 0), place), ("touch", place, (1, 2)), ("tied", (0, 0), place),
                          ("tied", place, (0, 1))]:
                if claim != ("tied", (0, 0), (0, 0)):
                    self.raises(BadPromise, claim, sure, (2, 3), SIGHTS, claim)
