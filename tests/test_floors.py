"""Rings and places [1.1], floors [1.2], parts [1.3]."""

import copy
import itertools

from samples import (BARE, CHAIN, Case, EVEN, FLOOR, FLOORS, FLOOR_SLOT, FORTY, JUNK, LONG, NO_INTEGERS, PLACE_SLOT,
                     POINT, POINTS, SIX, TWO_PARTS, WRONG_FLOORS, WRONG_PLACES, spoiled)
from touchrings.errors import BadFloor, BadLot, BadNumber, BadPlace, BadTouch
from touchrings.floors import (are_rings, behind, beside, is_floor, is_joined, is_place, partner, parts, places, seat,
                               with_touch, within, without_touch)


class Rings(Case):
    def test_rings(self):
        for thing in [(1,), (2, 3), (1,) * 40, (10 ** 99, 1), (5,) * 3]:
            self.assertIs(are_rings(thing), True)
            self.assertIs(are_rings(thing=thing), True)

    def test_no_rings(self):
        wrong = [(), (0,), (2, 0), (-1,), (2, -3), (1,) * 41, (2, "3"), (2, (3,)), FLOOR]
        for thing in JUNK + spoiled((1,)) + spoiled((2, 3)) + wrong:
            self.assertIs(are_rings(thing), False, thing)


class Floors(Case):
    def test_floors(self):
        for floor in FLOORS + [LONG]:
            self.assertIs(is_floor(floor), True)
            self.assertIs(is_floor(thing=floor), True)

    def test_no_floors(self):
        for thing in WRONG_FLOORS + spoiled(CHAIN) + spoiled(POINT):
            kept = copy.deepcopy(thing)
            self.assertIs(is_floor(thing), False, thing)
            self.assertEqual(thing, kept)

    def test_document_example(self):
        self.assertIs(is_floor(((2, 3), (((1, 0), (0, 0)),))), False)

    def test_as_defined_for_all_small_touches(self):
        near = list(itertools.product([-1, 0, 1, 2], repeat=2))
        pairs = list(itertools.product(near, near))
        rings = (2, 1)
        right = [(0, 0), (0, 1), (1, 0)]
        for one in pairs:
            defined = one[0] in right and one[1] in right and one[0] < one[1]
            self.assertIs(is_floor((rings, (one,))), defined, one)
        rings = (2, 2)
        right = list(itertools.product(range(2), repeat=2))
        pairs = list(itertools.product(right, right))
        for one, two in itertools.product(pairs, pairs):
            defined = one[0] < one[1] and two[0] < two[1] and one < two and len({*one, *two}) == 4
            self.assertIs(is_floor((rings, (one, two))), defined, (one, two))

    def test_every_function_with_a_floor_raises_bad_floor_first(self):
        for thing in WRONG_FLOORS:
            for call, rest in [(is_place, [(0, 0)]), (is_place, ["place"]), (places, []), (parts, []), (is_joined, [])]:
                self.raises(BadFloor, thing, call, thing, *rest)
        for call in [places, parts, is_joined]:
            self.raises(BadFloor, None, call, floor=None)
        self.raises(BadFloor, None, is_place, floor=None, thing=None)


class Places(Case):
    def test_places(self):
        self.same(places(FLOOR), ((0, 0), (0, 1), (1, 0), (1, 1), (1, 2)))
        self.same(places(floor=POINTS), ((0, 0), (1, 0), (2, 0)))
        for floor in FLOORS:
            self.assertEqual(places(floor), tuple(sorted(set(places(floor)))))
            self.assertEqual(len(places(floor)), sum(floor[0]))

    def test_is_place(self):
        for floor in FLOORS:
            for place in places(floor):
                self.assertIs(is_place(floor, place), True)
        self.assertIs(is_place(floor=LONG, thing=(0, 10 ** 30 - 1)), True)
        self.assertIs(is_place(LONG, (0, 10 ** 30)), False)
        for thing in WRONG_PLACES + NO_INTEGERS:
            self.assertIs(is_place(FLOOR, thing), False, thing)
            self.assertIs(is_place(floor=FLOOR, thing=thing), False, thing)

    def test_seat(self):
        self.same(seat(FLOOR, (1, 0)), 2)
        self.same(seat(floor=FLOOR, place=(1, 2)), 4)
        for floor in FLOORS:
            self.same([seat(floor, place) for place in places(floor)], list(range(len(places(floor)))))

    def test_seat_wrong(self):
        self.raises_in_order(seat, FLOOR_SLOT, PLACE_SLOT)

    def test_behind(self):
        self.same(behind(FLOOR, (1, 2), 2), (1, 1))
        self.same(behind(FLOOR, (0, 1), 1), (0, 0))
        self.same(behind(FLOOR, (1, 1), 1), (1, 2))
        self.same(behind(FLOOR, (1, 0), -1), (1, 2))
        self.same(behind(floor=FLOOR, place=(1, 2), k=-2), (1, 0))
        self.same(behind(POINT, (0, 0), 1), (0, 0))
        self.same(behind(POINT, (0, 0), -10 ** 99), (0, 0))

    def test_behind_step_by_step(self):
        for floor in FLOORS:
            for u, i in places(floor):
                length = floor[0][u]
                steps = [(u, (i + 1) % length) if i + 1 < length else (u, 0)]
                self.same(behind(floor, (u, i), 1), steps[0])
                self.same(behind(floor, (u, i), 0), (u, i))
                self.same(behind(floor, behind(floor, (u, i), -1), 1), (u, i))
                place = (u, i)
                for k in range(2 * length + 2):
                    self.same(behind(floor, (u, i), k), place)
                    self.same(behind(floor, place, -k), (u, i))
                    place = behind(floor, place, 1)

    def test_behind_very_great_k(self):
        self.same(behind(FLOOR, (1, 0), 3 * 10 ** 98 + 2), (1, 2))
        self.same(behind(FLOOR, (1, 0), -3 * 10 ** 98 - 1), (1, 2))
        self.same(behind(FLOOR, (0, 0), 10 ** 99 + 1), (0, 1))
        self.same(behind(LONG, (0, 0), 10 ** 60 - 1), (0, 10 ** 30 - 1))

    def test_behind_wrong(self):
        self.raises_in_order(behind, FLOOR_SLOT, PLACE_SLOT, ("k", 2, NO_INTEGERS, BadNumber))

    def test_partner(self):
        self.same(partner(FLOOR, (0, 0)), (1, 0))
        self.same(partner(floor=FLOOR, place=(1, 0)), (0, 0))
        self.assertIsNone(partner(FLOOR, (0, 1)))
        self.assertIsNone(partner(POINT, (0, 0)))
        self.same(partner(SIX, (0, 2)), (0, 0))
        for floor in FLOORS:
            pairs = {(place, partner(floor, place)) for place in places(floor)}
            wanted = {pair for x, y in floor[1] for pair in [(x, y), (y, x)]}
            self.assertEqual({pair for pair in pairs if pair[1] is not None}, wanted)

    def test_partner_wrong(self):
        self.raises_in_order(partner, FLOOR_SLOT, PLACE_SLOT)


class Parts(Case):
    def test_parts(self):
        self.same(parts(FLOOR), ((0, 1),))
        self.same(parts(floor=BARE), ((0,), (1,)))
        self.same(parts(POINT), ((0,),))
        self.same(parts(SIX), ((0,),))
        self.same(parts(POINTS), ((0, 2), (1,)))
        self.same(parts(TWO_PARTS), ((0, 2), (1, 3)))
        self.same(parts(CHAIN), ((0, 1, 2, 3),))
        self.same(parts(FORTY), tuple((u, u + 1) for u in range(0, 40, 2)))
        self.same(parts(((1, 1, 1, 2), (((0, 0), (3, 0)), ((2, 0), (3, 1))))), ((0, 2, 3), (1,)))

    def test_parts_joined_by_late_ties(self):
        rings = (2, 2, 2, 2, 1)
        touches = (((0, 0), (3, 0)), ((1, 0), (2, 0)), ((2, 1), (3, 1)))
        self.same(parts((rings, touches)), ((0, 1, 2, 3), (4,)))
        self.same(parts((rings, touches[:2])), ((0, 3), (1, 2), (4,)))

    def test_is_joined(self):
        joined = [floor for floor in FLOORS if is_joined(floor)]
        self.assertEqual(joined, [FLOOR, EVEN, SIX, POINT, CHAIN])
        self.assertIs(is_joined(floor=FLOOR), True)
        self.assertIs(is_joined(BARE), False)

    def test_within(self):
        self.same(within(FLOOR, (1,)), ((3,), ()))
        self.same(within(TWO_PARTS, (0, 2)), ((3, 3), (((0, 0), (1, 1)), ((0, 1), (0, 2)))))
        self.same(within(TWO_PARTS, (1, 3)), ((1, 2), (((0, 0), (1, 1)),)))
        self.same(within(floor=TWO_PARTS, lot=(2, 3)), ((3, 2), ()))
        self.same(within(TWO_PARTS, (0,)), ((3,), (((0, 1), (0, 2)),)))
        self.same(within(CHAIN, (1, 2, 3)), ((2, 2, 5), (((0, 1), (1, 0)), ((1, 1), (2, 0)))))

    def test_within_all_rings(self):
        for floor in FLOORS:
            self.same(within(floor, tuple(range(len(floor[0])))), floor)

    def test_within_is_joined_for_just_the_parts(self):
        for floor in [FLOOR, EVEN, SIX, BARE, POINT, POINTS, TWO_PARTS, CHAIN]:
            for many in range(1, len(floor[0]) + 1):
                for lot in itertools.combinations(range(len(floor[0])), many):
                    self.assertTrue(is_floor(within(floor, lot)))
            for lot in parts(floor):
                self.assertIs(is_joined(within(floor, lot)), True)

    def test_within_wrong(self):
        lots = JUNK + spoiled((0, 1)) + [(1, 0), (0, 0), (2,), (-1,), (0, 1, 2), (-1, 0), ((0,), (1,)), (0, "1"), ()]
        self.raises_in_order(within, FLOOR_SLOT, ("lot", (0, 1), lots, BadLot))

    def test_beside(self):
        self.same(beside(FLOOR, SIX), ((2, 3, 6), (((0, 0), (1, 0)), ((2, 0), (2, 2)))))
        self.same(beside(one=SIX, other=FLOOR), ((6, 2, 3), (((0, 0), (0, 2)), ((1, 0), (2, 0)))))
        self.same(beside(POINT, BARE), ((1, 2, 4), ()))
        for one, other in itertools.product(FLOORS[:-1], repeat=2):
            both = beside(one, other)
            first, all_rings = len(one[0]), len(one[0]) + len(other[0])
            self.assertTrue(is_floor(both))
            self.same(within(both, tuple(range(first))), one)
            self.same(within(both, tuple(range(first, all_rings))), other)
            self.assertEqual(len(both[1]), len(one[1]) + len(other[1]))

    def test_beside_forty_rings_and_one_more(self):
        most = ((1,) * 38, ())
        self.same(beside(most, FLOOR), ((1,) * 38 + (2, 3), (((38, 0), (39, 0)),)))
        self.raises(BadFloor, POINTS, beside, most, POINTS)
        self.raises(BadFloor, FLOOR, beside, one=((1,) * 39, ()), other=FLOOR)
        self.raises(BadFloor, POINT, beside, FORTY, POINT)
        self.raises(BadFloor, FORTY, beside, POINT, FORTY)

    def test_beside_wrong(self):
        self.raises_in_order(beside, ("one", FLOOR, WRONG_FLOORS, BadFloor), ("other", EVEN, WRONG_FLOORS, BadFloor))


class Touches(Case):
    def test_with_touch(self):
        wanted = ((2, 3), (((0, 0), (1, 0)), ((0, 1), (1, 2))))
        self.same(with_touch(FLOOR, (0, 1), (1, 2)), wanted)
        self.same(with_touch(FLOOR, (1, 2), (0, 1)), wanted)
        self.same(with_touch(floor=FLOOR, y=(0, 1), x=(1, 2)), wanted)
        self.same(with_touch(EVEN, (0, 0), (1, 3)), ((2, 4), (((0, 0), (1, 3)), ((0, 1), (1, 1)))))
        self.same(with_touch(SIX, (0, 5), (0, 1)), ((6,), (((0, 0), (0, 2)), ((0, 1), (0, 5)))))
        self.same(with_touch(POINTS[:1] + ((),), (1, 0), (0, 0)), ((1, 1, 1), (((0, 0), (1, 0)),)))

    def test_with_touch_that_cannot_be(self):
        taken = [((1, 1), (0, 0)), ((0, 0), (1, 1)), ((0, 0), (1, 0)), ((1, 0), (0, 0)), ((1, 0), (1, 2)),
                 ((1, 2), (1, 0)), ((0, 1), (0, 1)), ((0, 0), (0, 0))]
        for x, y in taken:
            for error in [self.raised(with_touch, FLOOR, x, y), self.raised(with_touch, floor=FLOOR, x=x, y=y)]:
                self.assertIs(type(error), BadTouch)
                self.same(error.thing, (x, y))

    def test_with_touch_wrong(self):
        self.raises_in_order(with_touch, FLOOR_SLOT, ("x", (0, 1), WRONG_PLACES, BadPlace),
                             ("y", (1, 2), WRONG_PLACES, BadPlace))
        self.raises(BadPlace, None, with_touch, FLOOR, (0, 0), None)

    def test_without_touch(self):
        self.same(without_touch(FLOOR, 0), ((2, 3), ()))
        touches = CHAIN[1]
        self.same(without_touch(CHAIN, 0), (CHAIN[0], touches[1:]))
        self.same(without_touch(CHAIN, 1), (CHAIN[0], (touches[0], touches[2])))
        self.same(without_touch(floor=CHAIN, number=2), (CHAIN[0], touches[:2]))

    def test_a_touch_more_and_taken_away(self):
        for floor in FLOORS[:-1]:
            free = [place for place in places(floor) if partner(floor, place) is None]
            for x, y in itertools.permutations(free, 2):
                more = with_touch(floor, x, y)
                self.assertTrue(is_floor(more))
                self.same(without_touch(more, more[1].index((min(x, y), max(x, y)))), floor)

    def test_without_touch_wrong(self):
        numbers = NO_INTEGERS + [-1, 1, 2, 10 ** 99]
        self.raises_in_order(without_touch, FLOOR_SLOT, ("number", 0, numbers, BadNumber))
        self.raises(BadNumber, 0, without_touch, BARE, 0)
        self.raises(BadNumber, 3, without_touch, CHAIN, 3)
        self.raises(BadNumber, -3, without_touch, CHAIN, -3)
