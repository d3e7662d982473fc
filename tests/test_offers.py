"""Needless touches [11.1], offers [11.2]."""

import itertools
import random

import reference
from samples import (BARE, CHAIN, Case, EVEN, FLOOR, FLOOR_SLOT, JUNK, POINT, POINTS, SIX, THREES, TWO_PARTS,
                     WRONG_FLOORS, few, some_floors, spoiled, without)
from touchrings.errors import BadFloor, BadOffers
from touchrings.floors import is_floor, places
from touchrings.labels import is_free
from touchrings.offers import are_offers, fewest_offers, judge_offers, needless, offers_hold

SMALL = [FLOOR, EVEN, SIX, BARE, POINT, POINTS, TWO_PARTS, ((4,), ()), ((2, 2, 2), (((0, 0), (1, 1)),)),
         ((3, 3), ()), ((6, 4), (((0, 0), (1, 0)),)), ((2, 4, 3), (((0, 0), (1, 1)),))]
TEN = tuple(((0, 2 * i), (1, 2 * i)) for i in range(10))
# Of forty places; ten rings that all offers are needed to join.
STAR = ((4,) * 10, ())
TREE = tuple(((u, 1), (u + 1, 0)) for u in range(9)) + (((9, 1), (9, 2)),)
# For BARE, which has rings of 2 and of 4 places.
RIGHT = (((0, 0), (1, 0)), ((0, 1), (1, 2)))
WRONG_OFFERS = without(JUNK, ()) + spoiled(RIGHT) + [
    RIGHT[::-1], RIGHT[:1] * 2, (((0, 0), (0, 0)),), (((1, 0), (0, 0)),), (((0, 0), (1, 4)),), (((0, 0), (2, 0)),),
    (((-1, 0), (0, 0)),), (((0, 0), (1, 0)), ((0, 0), (1, 1))), (((0, 0), (1, 0)), ((0, 1), (1, 0))), ((0, 0), (1, 0)),
    (((0, 0),),), (((0, 0), (1, 0), (1, 1)),), (RIGHT,), (((0, 0), (1, 10 ** 99)),), (RIGHT[0], ()),
]
OFFERS_SLOT = ("offers", RIGHT, WRONG_OFFERS, BadOffers)


def some_offers(floor, many):
    """Offers of a floor, made by chance, the same ones each time."""
    chance = random.Random(many)
    found = [()]
    for _ in range(many):
        free = [place for place in places(floor) if reference.partner(floor, place) is None]
        chance.shuffle(free)
        pairs = [tuple(sorted(pair)) for pair in zip(free[::2], free[1::2])]
        found.append(tuple(sorted(pairs[:chance.randrange(6)])))
    return found


def whole(floor, offers):
    return floor[0], tuple(sorted(floor[1] + tuple(offers)))


class Needless(Case):
    def test_document_example(self):
        self.same(needless(((2, 3), (((0, 0), (1, 0)), ((0, 1), (1, 1))))), (0, 1))
        self.same(needless(floor=((2, 3), (((0, 0), (1, 0)), ((0, 1), (1, 1))))), (0, 1))

    def test_as_defined(self):
        told = set()
        for floor in SMALL + [CHAIN, THREES] + some_floors(80):
            wanted = []
            for number in range(len(floor[1])):
                less = (floor[0], floor[1][:number] + floor[1][number + 1:])
                if reference.classes(less) == reference.classes(floor):
                    wanted.append(number)
            self.same(needless(floor), tuple(wanted))
            told.add((len(wanted) > 0, len(wanted) == len(floor[1])))
        self.assertEqual(len(told), 4)

    def test_each_by_itself_is_needless_but_not_all(self):
        floor = ((2, 3), (((0, 0), (1, 0)), ((0, 1), (1, 1))))
        self.same(needless(floor), (0, 1))
        self.same(needless((floor[0], floor[1][:1])), ())
        self.same(needless(POINT), ())

    def test_wrong(self):
        self.raises_in_order(needless, FLOOR_SLOT)


class Offers(Case):
    def test_document_examples(self):
        self.same(fewest_offers(BARE, (((0, 0), (1, 0)), ((0, 1), (1, 2)))), 2)
        self.same(fewest_offers(BARE, (((0, 0), (1, 0)),)), None)
        self.assertIs(offers_hold(BARE, (((0, 0), (1, 0)),), ("labels", 2, (0, 1, 0, 1, 0, 1))), True)
        self.assertIs(offers_hold(BARE, (), ("apart", (0,))), True)
        thing = (((0, 0), (0, 0)),)
        self.raises(BadOffers, thing, judge_offers, BARE, thing)

    def test_by_name(self):
        self.assertIs(are_offers(thing=RIGHT, floor=BARE), True)
        self.same(fewest_offers(offers=RIGHT, floor=BARE), 2)
        told = judge_offers(offers=RIGHT, floor=BARE)
        self.assertIs(offers_hold(thing=told, offers=RIGHT, floor=BARE), True)

    def test_are_offers(self):
        for floor in SMALL + [CHAIN]:
            for offers in some_offers(floor, 9):
                self.assertIs(are_offers(floor, offers), True)
                for touch in floor[1]:
                    self.refuses(are_offers, floor, tuple(sorted(offers + (touch,))))
                    self.refuses(are_offers, floor, (touch,))
        # A place of a touch has a partner already.
        self.refuses(are_offers, FLOOR, (((0, 0), (1, 1)),))
        self.refuses(are_offers, FLOOR, (((0, 1), (1, 0)),))
        self.assertIs(are_offers(FLOOR, (((0, 1), (1, 1)),)), True)

    def test_are_no_offers(self):
        for thing in WRONG_OFFERS:
            self.refuses(are_offers, BARE, thing)
        self.raises_in_order(are_offers, FLOOR_SLOT, ("thing", (), [], None))

    def certificate_is_right(self, floor, offers, told):
        """A certificate is right by the words of the document, and is accepted."""
        self.assertIs(offers_hold(floor, offers, told), True)
        all_of = whole(floor, offers)
        if told[0] == "offers":
            self.assertEqual(list(told[1]), sorted(set(told[1])))
            self.assertTrue(reference.is_free(whole(floor, [offers[at] for at in told[1]])))
        elif told[0] == "labels":
            lot = tuple(range(len(floor[0])))
            self.assertTrue(len(told) == 3 and told[1] >= 2)
            self.assertTrue(reference.is_labelling(all_of, lot, told[1], told[2]))
        else:
            self.assertEqual((told[0], len(told)), ("apart", 2))
            self.assertTrue(0 < len(told[1]) < len(floor[0]))
            self.assertTrue(all((x[0] in told[1]) == (y[0] in told[1]) for x, y in all_of[1]))

    def test_as_defined(self):
        words, fewest = set(), set()
        for floor in SMALL + some_floors(60):
            for offers in some_offers(floor, 6):
                frees = [many for many in range(len(offers) + 1) for lot in itertools.combinations(offers, many)
                         if reference.is_free(whole(floor, lot))]
                wanted = min(frees) if frees else None
                self.same(fewest_offers(floor, offers), wanted)
                told = judge_offers(floor, offers)
                self.assertEqual(told[0] == "offers", wanted is not None)
                self.certificate_is_right(floor, offers, told)
                words.add(told[0])
                fewest.add(wanted)
        self.assertEqual(words, {"offers", "labels", "apart"})
        self.assertLessEqual({0, 1, 2, None}, fewest)

    def test_free_without_offers(self):
        for floor in [FLOOR, POINT, ((4,), (((0, 0), (0, 1)),))]:
            for offers in some_offers(floor, 4):
                self.same(fewest_offers(floor, offers), 0)
                self.assertIs(offers_hold(floor, offers, ("offers", ())), True)
                self.assertEqual(judge_offers(floor, offers)[0], "offers")

    def test_no_offers(self):
        self.same([fewest_offers(EVEN, ()), fewest_offers(BARE, ())], [None, None])
        self.assertEqual([judge_offers(EVEN, ())[:2], judge_offers(BARE, ())[0]], [("labels", 2), "apart"])

    def test_ten_offers(self):
        self.assertTrue(is_floor(STAR) and are_offers(STAR, TREE) and len(TREE) == 10)
        self.same(fewest_offers(STAR, TREE), 10)
        self.same(fewest_offers(STAR, TREE[1:]), None)
        self.same(fewest_offers(STAR, TREE[:9]), None)
        floor = ((20, 20), ())
        self.same(fewest_offers(floor, TEN), None)
        self.assertEqual(judge_offers(floor, TEN)[:2], ("labels", 20))
        offers = TEN[:8] + (((0, 17), (1, 18)), ((0, 19), (1, 19)))
        self.assertTrue(are_offers(floor, offers))
        self.same(fewest_offers(floor, offers), 2)
        for some in [TREE, TREE[1:], TREE[:9]]:
            self.assertIs(offers_hold(STAR, some, judge_offers(STAR, some)), True)

    def test_all_lots(self):
        floor = ((2, 4), ())
        for offers in some_offers(floor, 6):
            for many in range(4):
                for lot in itertools.product(range(-1, 4), repeat=many):
                    right = list(lot) == sorted(set(lot)) and all(0 <= at < len(offers) for at in lot)
                    right = right and is_free(whole(floor, [offers[at] for at in lot]))
                    self.assertIs(offers_hold(floor, offers, ("offers", lot)), right)

    def test_all_apart(self):
        for floor in [BARE, POINTS, ((2, 2, 2), (((0, 0), (1, 1)),)), TWO_PARTS, ((4,), ())]:
            for offers in some_offers(floor, 5):
                for many in range(5):
                    for lot in itertools.product(range(-1, 5), repeat=many):
                        right = list(lot) == sorted(set(lot)) and all(0 <= u < len(floor[0]) for u in lot)
                        right = right and 0 < len(lot) < len(floor[0])
                        right = right and all((x[0] in lot) == (y[0] in lot) for x, y in whole(floor, offers)[1])
                        self.assertIs(offers_hold(floor, offers, ("apart", lot)), right)

    def test_all_labellings(self):
        floor = ((2, 2), ())
        for offers in [(), (((0, 0), (1, 0)),), (((0, 0), (1, 1)),), (((0, 0), (0, 1)),)]:
            for m in [1, 2, 3, 4]:
                for thing in itertools.product(range(m), repeat=4):
                    wanted = m >= 2 and reference.is_labelling(whole(floor, offers), (0, 1), m, thing)
                    self.assertIs(offers_hold(floor, offers, ("labels", m, thing)), wanted)

    def test_wrong_certificates(self):
        joined = (((0, 0), (1, 0)),)
        for offers, right in [(RIGHT, ("offers", (0, 1))), (joined, ("labels", 2, (0, 1, 0, 1, 0, 1))),
                              ((), ("apart", (1,))), ((), ("labels", 2, (0, 1, 1, 0, 1, 0)))]:
            self.assertIs(offers_hold(BARE, offers, right), True)
            wrong = [right + (0,), right[:1], right[1:], (right[0] + "s",) + right[1:], ("offers", ()),
                     ("offers", (0,)), ("offers", (1, 0)), ("offers", (0, 1, 2)), ("labels", 1, (0,) * 6),
                     ("labels", 2, (0,) * 6), ("labels", 2, (0, 1, 0, 1, 0)), ("labels", 4, (0, 1, 0, 1, 0, 1)),
                     ("apart", ()), ("apart", (0, 1)), ("apart", (2,)), ("apart", 0), ("labels", 0, (0,) * 6),
                     ("labels", 3, (0, 1, 0, 1, 0, 1))]
            for thing in JUNK + spoiled(right) + wrong:
                self.refuses(offers_hold, BARE, offers, thing)
        self.refuses(offers_hold, BARE, joined, ("apart", (0,)))
        self.refuses(offers_hold, BARE, joined, ("labels", 2, (0, 1, 1, 0, 1, 0)))

    def test_wrong(self):
        floor = ("floor", BARE, WRONG_FLOORS, BadFloor)
        for call in [fewest_offers, judge_offers]:
            self.raises_in_order(call, few(floor), OFFERS_SLOT)
        self.raises_in_order(offers_hold, floor, OFFERS_SLOT, ("thing", None, [], None))
