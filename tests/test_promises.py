"""Promises of halls [13.2]: whether they hold, and the certificates against them."""

import itertools
import random

import reference
from samples import (BARE, CHAIN, Case, EVEN, FLOOR, FOURS, JUNK, POINT, POINTS, SIX, THREES, TWO_PARTS, mixed,
                     some_floors, spoiled)
from touchrings.called import called_rest
from touchrings.errors import BadPromise
from touchrings.floors import places
from touchrings.halls import Hall, read_hall
from touchrings.plans import home

SMALL = [FLOOR, EVEN, SIX, BARE, POINT, POINTS, TWO_PARTS, FOURS, THREES, ((3, 3), ()), ((4,), (((0, 0), (0, 2)),))]
HOLDS = ("holds",)
WRONG_PROMISES = JUNK + spoiled(("number", 6)) + spoiled(("callable", (2, 0, 1))) + spoiled(("apart", 1, 3)) + spoiled(
    ("joined",)) + spoiled(("free",)) + [
    ("joined", ()), ("free", 1), ("number",), ("number", 0), ("number", 1001), ("number", -1), ("number", 10 ** 99),
    ("number", 1, 2), ("callable",), ("callable", (0, 0)), ("callable", (1, 2)), ("callable", (0, 2)),
    ("callable", 0, 1), ("callable", (-1, 0)), ("callable", ((0,),)), ("apart",), ("apart", 0),
    ("apart", 0, 0), ("apart", 1, 0),
    ("apart", -1, 0), ("apart", 0, 1, 2), ("apart", (0, 1)), "joined", "free", ("beat", ()), ("tied", (0, 0), (0, 1)),
    ("touch", (0, 0), (0, 1)), ("holds",), ("number", "2"), ("callable", (0, 10 ** 99)), (("joined",),),
]


def hall_of(floor, arrangement):
    """A hall with a floor and an arrangement, which is told by a text."""
    return read_hall("\n".join([str(Hall(floor)).rsplit("\n", 1)[0], "dancers " + " ".join(map(str, arrangement))]))


def promises_of(floor, seed):
    """Some promises of each kind."""
    chance = random.Random(seed)
    many = sum(floor[0])
    found = [("joined",), ("free",)] + [("number", m) for m in [1, 2, 3, 4, 6, 12, 999, 1000]]
    found += [("callable", tuple(chance.sample(range(size), size))) for size in [0, 1, many - 1, many, many, many + 1]]
    pairs = list(itertools.combinations(range(many + 2), 2))
    return found + [("apart", d, e) for d, e in chance.sample(pairs, min(12, len(pairs)))] + [("apart", 0, 10 ** 99)]


class Promises(Case):
    def holds(self, floor, arrangement, promise):
        """Whether a promise holds, by the words of the document."""
        many = sum(floor[0])
        if promise[0] == "joined":
            return len(reference.parts(floor)) == 1
        if promise[0] == "free":
            return reference.is_free(floor)
        if promise[0] == "number":
            return all(promise[1] % number == 0 for number in reference.numbers_and_labels(floor)[0])
        if promise[0] == "callable":
            goal = promise[1]
            return len(goal) == many and called_rest(floor, arrangement, goal) is not None
        if promise[2] >= many:
            return False
        x, y = [reference.place_of(floor, arrangement, dancer) for dancer in promise[1:]]
        return not any(x in lot and y in lot for lot in reference.classes(floor))

    def right(self, floor, arrangement, promise, told):
        """A certificate against a promise is right by the words of the document."""
        many, lots = sum(floor[0]), reference.parts(floor)
        numbers, labels = reference.numbers_and_labels(floor)
        if told[0] == "parts":
            return promise[0] in ("joined", "free") and told == ("parts", tuple(lots)) and len(lots) > 1
        if told[0] == "labels":
            whole = tuple(range(len(floor[0])))
            return promise[0] == "free" and told[1] >= 2 and reference.is_labelling(floor, whole, *told[1:])
        if told[0] == "part":
            _, p, g = told
            return promise[0] == "number" and numbers[p] == g and promise[1] % g != 0
        if told[0] in ("length", "gone"):
            word = {"length": "callable", "gone": "apart"}[told[0]]
            wanted = promise[0] == word and (promise[2] >= many if word == "apart" else len(promise[1]) != many)
            return len(told) == 1 and wanted
        if told[0] == "plan":
            ends = reference.after(floor, arrangement, told[1])
            x, y = sorted(reference.place_of(floor, ends, dancer) for dancer in promise[1:])
            return promise[0] == "apart" and (x, y) in floor[1]
        return promise[0] == "callable" and self.bars(floor, arrangement, promise[1], told)

    def bars(self, floor, one, other, told):
        """A certificate of dancers that are astray or shift unlike is right [6.1]."""
        numbers, labels = reference.numbers_and_labels(floor)
        lots, label = reference.parts(floor), dict(zip(places(floor), labels))
        shifts = []
        for d in told[1:]:
            x, y = [reference.place_of(floor, row, d) for row in (one, other)]
            p, q = [[p for p, lot in enumerate(lots) if place[0] in lot][0] for place in (x, y)]
            shifts.append(((label[y] - label[x]) % numbers[p], numbers[p]) if p == q else None)
        if told[0] == "astray":
            return len(told) == 2 and shifts == [None]
        (a, g), (b, h) = shifts
        return told[1] < told[2] and not any(t % g == a and t % h == b for t in range(g * h))

    def test_each_promise(self):
        words = set()
        for floor in SMALL + [CHAIN] + some_floors(25):
            for arrangement in [home(floor), mixed(floor, 3)]:
                hall = hall_of(floor, arrangement)
                for promise in promises_of(floor, 4):
                    words.add(self.judged(hall, promise))
        self.assertEqual(words, {("joined", "holds"), ("joined", "parts"), ("free", "holds"), ("free", "parts"),
                                 ("free", "labels"), ("number", "holds"), ("number", "part"), ("callable", "holds"),
                                 ("callable", "length"), ("callable", "astray"), ("callable", "unlike"),
                                 ("apart", "holds"), ("apart", "gone"), ("apart", "plan")})

    def judged(self, hall, promise):
        floor, arrangement = hall.floor(), hall.arrangement()
        told = hall.judged(promise)
        if self.holds(floor, arrangement, promise):
            self.same(told, HOLDS)
        else:
            self.assertTrue(self.right(floor, arrangement, promise, told), (floor, arrangement, promise, told))
            if told[0] == "plan":
                self.plan_is_small(floor, told[1])
        self.assertIs(hall.against_holds(promise, told), told != HOLDS)
        return promise[0], told[0]

    def test_by_name(self):
        hall = Hall(EVEN)
        told = hall.judged(promise=("free",))
        self.assertEqual(told[:2], ("labels", 2))
        self.assertIs(hall.against_holds(thing=told, promise=("free",)), True)

    def test_they_need_not_be_made_and_nothing_is_changed(self):
        hall = Hall(EVEN)
        text = str(hall)
        for promise in promises_of(EVEN, 1):
            hall.judged(promise)
            hall.against_holds(promise, ("parts", ()))
        self.same([str(hall), hall.deeds(), hall.promises()], [text, 0, ()])

    def test_numbers(self):
        hall = Hall(EVEN)
        for m in [1, 2, 3, 999, 1000]:
            self.same(hall.judged(("number", m)), HOLDS if m % 2 == 0 else ("part", 0, 2))
        hall = Hall(BARE)
        self.same([hall.judged(("number", m))[:2] for m in [4, 2, 6, 3, 1]],
                  [HOLDS, ("part", 1), ("part", 1), ("part", 0), ("part", 0)])
        parts = [(0, 2), (1, 4), (0, 4), (1, 2), (2, 2)]
        self.same([hall.against_holds(("number", 3), ("part", p, g)) for p, g in parts],
                  [True, True, False, False, False])
        self.same([hall.against_holds(("number", 2), ("part", p, g)) for p, g in [(0, 2), (1, 4), (-1, 4), (0, 0)]],
                  [False, True, False, False])

    def test_callable(self):
        hall = Hall(FLOOR)
        self.same([hall.judged(("callable", goal)) for goal in [(), (0,), (0, 1, 2, 3), (0, 1, 2, 3, 4, 5)]],
                  [("length",)] * 4)
        self.same(hall.judged(("callable", (4, 3, 2, 1, 0))), HOLDS)
        self.assertIs(hall.against_holds(("callable", (4, 3, 2, 1, 0)), ("length",)), False)
        self.assertIs(hall.against_holds(("callable", ()), ("length",)), True)
        # A plan that leads there is no certificate against it.
        self.assertIs(hall.against_holds(("callable", (4, 0, 1, 2, 3)), ("plan", (("beat", (0,)),))), False)
        self.assertIs(hall.against_holds(("callable", (0, 1, 2, 3, 4)), ("plan", ())), False)
        # It is told from the arrangement that stands.
        hall = hall_of(BARE, (1, 0, 2, 3, 4, 5))
        self.same(hall.judged(("callable", (1, 0, 2, 3, 4, 5))), HOLDS)
        self.same(hall.judged(("callable", (0, 1, 2, 3, 4, 5)))[0], "unlike")

    def test_apart(self):
        hall = Hall(EVEN)
        self.same([hall.judged(("apart", 0, 1)), hall.judged(("apart", 1, 3)), hall.judged(("apart", 5, 6))],
                  [HOLDS, ("plan", ()), ("gone",)])
        hall.change(("beat", ()))
        # Now the dancers 0 and 1 of the ring of two stand exchanged, and 1 and 5 behind the beat at a touch's places.
        self.same(hall.judged(("apart", 0, 1)), HOLDS)
        self.assertEqual(hall.judged(("apart", 1, 3))[0], "plan")
        self.assertIs(hall.against_holds(("apart", 1, 3), ("plan", ())), False)
        self.assertIs(hall.against_holds(("apart", 0, 2), ("plan", ())), True)
        self.assertIs(hall.against_holds(("apart", 0, 1), ("gone",)), False)

    def test_certificates_by_their_words(self):
        plans = [(), (("beat", ()),), (("times", 3, (("beat", ()),)),)]
        for floor in SMALL[:7]:
            things = [("length",), ("gone",), HOLDS, ("parts", tuple(reference.parts(floor))), ("parts", ()),
                      ("parts", ((0,),))]
            things += [("part", p, g) for p in range(3) for g in range(5)]
            things += [("astray", d) for d in range(4)] + [("plan", plan) for plan in plans]
            things += [("unlike", d, e) for d in range(4) for e in range(4)]
            many = sum(floor[0])
            things += [("labels", m, tuple(label % m for label in range(many))) for m in (1, 2, 3)]
            things.append(("labels", 2, tuple(i % 2 for _, i in places(floor))))
            for arrangement in [home(floor), mixed(floor, 9)]:
                hall = hall_of(floor, arrangement)
                for promise in promises_of(floor, 5):
                    for thing in things:
                        self.assertIs(hall.against_holds(promise, thing), self.fits(floor, arrangement, promise, thing))

    def fits(self, floor, arrangement, promise, thing):
        """Whether a certificate of one of the kinds is right, by its words; there is none if the promise holds."""
        if self.holds(floor, arrangement, promise) or thing == HOLDS:
            return False
        try:
            if thing[0] in ("astray", "unlike"):
                many = sum(floor[0])
                return len(promise[1]) == many and self.right(floor, arrangement, promise, thing)
            if thing[0] == "plan" and promise[0] == "apart" and promise[2] >= sum(floor[0]):
                return False
            return self.right(floor, arrangement, promise, thing)
        except (IndexError, ValueError, TypeError, ZeroDivisionError):
            return False

    def test_wrong_certificates(self):
        bare, even = Hall(BARE), Hall(EVEN)
        for hall, promise, right in [
                (bare, ("joined",), ("parts", ((0,), (1,)))), (bare, ("free",), ("parts", ((0,), (1,)))),
                (even, ("free",), ("labels", 2, (0, 1, 0, 1, 0, 1))), (bare, ("number", 6), ("part", 1, 4)),
                (bare, ("free",), ("labels", 2, (1, 0, 0, 1, 0, 1))), (even, ("callable", (0,)), ("length",)),
                (bare, ("callable", (5, 1, 2, 3, 4, 0)), ("astray", 5)), (even, ("apart", 0, 6), ("gone",)),
                (even, ("callable", (1, 0, 2, 3, 4, 5)), ("unlike", 1, 5)),
                (even, ("apart", 0, 2), ("plan", (("beat", (0,)),)))]:
            self.assertIs(hall.against_holds(promise, right), True)
            wrong = [right + (0,), right + ((),), right[1:], (right[0] + "s",) + right[1:], HOLDS, ("parts", ((0, 1),)),
                     ("parts", ((1,), (0,))), ("parts", ((0,),)), ("parts", ((0,), (1,), (2,))),
                     ("labels", 1, (0,) * 6),
                     ("labels", 2, (0, 1, 0, 1, 1, 0)), ("part", 1, 2), ("part", 1, 1), ("astray", 1), ("unlike", 5, 1),
                     ("plan", ()), ("plan", (("beat", (1,)),)), ("parts", [(0,), (1,)])]
            if len(right) > 1:
                wrong.append(right[:-1])
            for thing in JUNK + spoiled(right) + wrong:
                self.refuses(hall.against_holds, promise, thing)

    def test_wrong_promises(self):
        hall = Hall(FLOOR)
        for thing in WRONG_PROMISES + [hall]:
            self.raises(BadPromise, thing, hall.judged, thing)
            self.raises(BadPromise, thing, hall.judged, promise=thing)
            self.raises(BadPromise, thing, hall.against_holds, thing, None)
            self.raises(BadPromise, thing, hall.against_holds, thing=("length",), promise=thing)
            self.raises(BadPromise, thing, hall.change, ("promise", thing))
            self.raises(BadPromise, thing, hall.change, ("drop", thing))
        self.same(str(hall), str(Hall(FLOOR)))
