"""Turnings [1.4], backward floors [1.5]."""

import itertools

from samples import (BARE, CHAIN, Case, EVEN, FLOOR, FLOORS, FLOOR_SLOT, JUNK, POINT, POINTS, SIX, TWO_PARTS,
                     WRONG_FLOORS, WRONG_PLACES, spoiled)
from touchrings.errors import BadFloor, BadPlace, BadTurning
from touchrings.floors import behind, beside, is_floor, partner, places
from touchrings.turnings import back, backward, both, is_turning, led, place_led, turning_between

SMALL = [FLOOR, EVEN, SIX, BARE, POINT, POINTS]
WRONG_TURNINGS = JUNK + spoiled(((1, 0), (0, 1))) + spoiled(((0, 1), (1, 2))) + [
    ((0, 0), (0, 0)), ((1, 1), (0, 0)), ((0, 2), (0, 0)), ((-1, 0), (0, 0)), ((0,), (0, 0)), ((0, 1, 2), (0, 0)),
    ((0, 1), (2, 0)), ((0, 1), (0, 3)), ((1, 0), (2, 0)), ((0, 1), (-1, 0)), ((0, 1), (0,)), ((0, 1), (0, 0, 0)),
    ((0, 1),), ((0, 1), (0, 0), ()), ((), ()), ((0, 1), ()), ((), (0, 0)), ((0, 1), (10 ** 99, 0)), FLOOR,
]
TURNING_SLOT = ("turning", ((1, 0), (0, 1)), WRONG_TURNINGS, BadTurning)


def turnings_of(floor):
    """All turnings of a floor."""
    rings = floor[0]
    shifts = list(itertools.product(*[range(length) for length in rings]))
    return list(itertools.product(itertools.permutations(range(len(rings))), shifts))


def still(floor):
    """The turning of a floor that leaves everything."""
    return tuple(range(len(floor[0]))), (0,) * len(floor[0])


def far(floor):
    """A turning with the rings turned round, and the shifts of the length less 1."""
    return tuple(range(len(floor[0])))[::-1], tuple(length - 1 for length in floor[0])


class Turnings(Case):
    def test_is_turning(self):
        for floor in SMALL:
            for turning in turnings_of(floor):
                self.assertIs(is_turning(floor, turning), True)
        for floor in FLOORS:
            self.assertIs(is_turning(floor=floor, thing=still(floor)), True)
            self.assertIs(is_turning(floor, far(floor)), True)

    def test_is_no_turning(self):
        for thing in WRONG_TURNINGS:
            self.assertIs(is_turning(FLOOR, thing), False, thing)
        self.assertIs(is_turning(POINT, ((0,), (1,))), False)
        self.assertIs(is_turning(EVEN, ((1, 0), (2, 1))), False)

    def test_is_turning_needs_a_floor(self):
        for thing in WRONG_FLOORS:
            self.raises(BadFloor, thing, is_turning, thing, None)
        self.raises(BadFloor, None, is_turning, thing=still(FLOOR), floor=None)

    def test_led(self):
        self.same(led(FLOOR, ((1, 0), (0, 1))), ((3, 2), (((0, 1), (1, 0)),)))
        self.same(led(floor=TWO_PARTS, turning=((2, 0, 3, 1), (1, 0, 2, 1))),
                  ((1, 2, 3, 3), (((0, 0), (1, 0)), ((2, 0), (2, 2)), ((2, 1), (3, 0)))))
        for floor in FLOORS:
            self.same(led(floor, still(floor)), floor)

    def test_led_keeps_places_steps_and_partners(self):
        for floor in SMALL + [CHAIN]:
            for turning in turnings_of(floor)[::7] + [far(floor)]:
                target = led(floor, turning)
                self.assertTrue(is_floor(target))
                called = {place: place_led(floor, turning, place) for place in places(floor)}
                called[None] = None
                self.assertEqual(sorted(called[place] for place in places(floor)), list(places(target)))
                for place in places(floor):
                    step = behind(floor, place, 1)
                    self.assertEqual(behind(target, called[place], 1), called[step])
                    self.assertEqual(partner(target, called[place]), called[partner(floor, place)])

    def test_led_wrong(self):
        self.raises_in_order(led, FLOOR_SLOT, TURNING_SLOT)

    def test_place_led(self):
        self.same(place_led(FLOOR, ((1, 0), (0, 1)), (1, 2)), (0, 0))
        self.same(place_led(floor=FLOOR, turning=((1, 0), (1, 2)), place=(0, 1)), (1, 0))
        for floor in FLOORS:
            for u, i in places(floor):
                names, shifts = far(floor)
                self.same(place_led(floor, still(floor), (u, i)), (u, i))
                self.same(place_led(floor, (names, shifts), (u, i)), (names[u], (i + shifts[u]) % floor[0][u]))

    def test_place_led_wrong(self):
        self.raises_in_order(place_led, FLOOR_SLOT, TURNING_SLOT, ("place", (1, 2), WRONG_PLACES, BadPlace))

    def test_both(self):
        self.same(both(FLOOR, ((1, 0), (0, 1)), ((0, 1), (2, 1))), ((1, 0), (1, 0)))
        for floor in SMALL:
            for first in turnings_of(floor)[::3]:
                halfway = led(floor, first)
                for second in turnings_of(halfway)[::5] + [still(floor)]:
                    joint = both(floor=floor, first=first, second=second)
                    self.assertIs(is_turning(floor, joint), True)
                    self.same(led(floor, joint), led(halfway, second))
                    for place in places(floor):
                        twice = place_led(halfway, second, place_led(floor, first, place))
                        self.same(place_led(floor, joint, place), twice)

    def test_both_wrong(self):
        first = ("first", ((0, 1), (1, 2)), WRONG_TURNINGS, BadTurning)
        self.raises_in_order(both, FLOOR_SLOT, first, ("second", ((1, 0), (0, 1)), WRONG_TURNINGS, BadTurning))

    def test_second_is_a_turning_of_the_led_floor(self):
        exchange, shift = ((1, 0), (0, 0)), ((0, 1), (2, 0))
        self.same(both(FLOOR, exchange, shift), ((1, 0), (0, 2)))
        self.raises(BadTurning, shift, both, FLOOR, still(FLOOR), shift)
        late = ((0, 1), (0, 2))
        self.raises(BadTurning, late, both, FLOOR, exchange, late)

    def test_back(self):
        self.same(back(FLOOR, ((1, 0), (0, 1))), ((1, 0), (2, 0)))
        self.same(back(floor=FLOOR, turning=((0, 1), (1, 2))), ((0, 1), (1, 1)))
        for floor in SMALL:
            self.same(back(floor, still(floor)), still(floor))
            for turning in turnings_of(floor):
                target = led(floor, turning)
                self.same(led(target, back(floor, turning)), floor)
                self.same(both(floor, turning, back(floor, turning)), still(floor))
                self.same(back(target, back(floor, turning)), turning)

    def test_back_of_a_turning_that_goes_round(self):
        turning = ((1, 2, 3, 0), (1, 0, 1, 4))
        self.same(back(CHAIN, turning), ((3, 0, 1, 2), (1, 1, 0, 1)))

    def test_back_wrong(self):
        self.raises_in_order(back, FLOOR_SLOT, TURNING_SLOT)


class TurningBetween(Case):
    def leads(self, one, other):
        """There is a turning, and the one that is returned leads to the other floor."""
        turning = turning_between(one, other)
        self.assertIsNotNone(turning, (one, other))
        self.same(led(one, turning), other)

    def test_document_example(self):
        self.assertIsNone(turning_between(FLOOR, EVEN))

    def test_all_turnings_of_small_floors(self):
        for floor in SMALL + [TWO_PARTS]:
            for turning in turnings_of(floor)[::3]:
                self.leads(floor, led(floor, turning))
                self.leads(led(floor, turning), floor)

    def test_as_defined_for_all_floors_of_some_rings(self):
        for rings, touches in [((4,), 2), ((2, 2), 2), ((1, 2, 2), 2), ((2, 3), 2), ((1, 1, 1, 1), 2)]:
            spots = places((rings, ()))
            pairs = list(itertools.combinations(spots, 2))
            floors = [(rings, lot) for many in range(touches + 1) for lot in itertools.combinations(pairs, many)]
            floors = [floor for floor in floors if is_floor(floor)]
            for one in floors:
                reached = {led(one, turning) for turning in turnings_of(one)}
                for other in floors:
                    if other in reached:
                        self.leads(one, other)
                    else:
                        self.assertIsNone(turning_between(one=one, other=other), (one, other))

    def test_no_turning(self):
        for one, other in itertools.permutations(FLOORS, 2):
            self.assertIsNone(turning_between(one, other))
        self.assertIsNone(turning_between(((2, 3), ()), FLOOR))
        self.assertIsNone(turning_between(FLOOR, ((2, 3), ())))
        self.assertIsNone(turning_between(((6,), (((0, 0), (0, 3)),)), SIX))
        self.assertIsNone(turning_between(POINT, ((1, 1), ())))
        self.assertIsNone(turning_between(((1, 1), ()), POINT))
        self.assertIsNone(turning_between(((2, 2), ()), ((1, 3), ())))

    def test_rings_that_are_alike_but_tied_the_other_way_round(self):
        def round_of(first, second):
            return (3, 3), (((0, 0), (1, 0)), ((0, 1), (1, first)), ((0, 2), (1, second)))
        self.leads(round_of(1, 2), ((3, 3), (((0, 0), (1, 1)), ((0, 1), (1, 2)), ((0, 2), (1, 0)))))
        self.assertIsNone(turning_between(round_of(1, 2), round_of(2, 1)))

    def test_eight_rings_and_twenty_four_places(self):
        ring = ((3,) * 8, tuple(sorted((min(x, y), max(x, y)) for x, y in [
            ((u, 0), ((u + 1) % 8, 1)) for u in range(8)])))
        turning = ((3, 0, 7, 5, 1, 6, 2, 4), (0, 1, 2, 2, 1, 0, 2, 1))
        self.leads(ring, led(ring, turning))
        other = ((3,) * 8, tuple(sorted((min(x, y), max(x, y)) for x, y in [
            ((u, 0), (u - u % 4 + (u + 1) % 4, 1)) for u in range(8)])))
        self.leads(other, led(other, turning))
        self.assertIsNone(turning_between(ring, other))
        self.assertIsNone(turning_between(other, ring))
        self.leads(ring, backward(ring))

    def test_many_parts_that_look_alike(self):
        near = ((6,), (((0, 0), (0, 2)),))
        wide = ((6,), (((0, 0), (0, 3)),))
        one = beside(beside(near, wide), beside(near, wide))
        other = beside(beside(wide, near), beside(wide, near))
        self.leads(one, other)
        self.leads(other, one)
        self.assertIsNone(turning_between(one, beside(beside(near, wide), beside(near, near))))
        pairs = ((3, 3) * 4, tuple(((u, u % 3), (u + 1, 2)) for u in range(0, 8, 2)))
        self.leads(pairs, led(pairs, far(pairs)))
        self.leads(((24,), ()), ((24,), ()))

    def test_wrong(self):
        self.raises_in_order(turning_between, ("one", FLOOR, WRONG_FLOORS, BadFloor),
                             ("other", EVEN, WRONG_FLOORS, BadFloor))


class Backward(Case):
    def test_backward(self):
        self.same(backward(FLOOR), ((2, 3), (((0, 1), (1, 1)),)))
        self.same(backward(floor=SIX), ((6,), (((0, 1), (0, 5)),)))
        self.same(backward(POINTS), POINTS)
        self.same(backward(BARE), BARE)
        self.same(backward(CHAIN), ((2, 2, 2, 5), (((0, 1), (3, 2)), ((1, 0), (2, 1)), ((2, 0), (3, 1)))))

    def test_backward_twice_gives_the_floor(self):
        for floor in FLOORS:
            self.assertTrue(is_floor(backward(floor)))
            self.same(backward(backward(floor)), floor)

    def test_partners_stand_for_what_lies_ahead(self):
        for floor in FLOORS:
            def stands_for(place):
                return place[0], -place[1] % floor[0][place[0]]
            for x, y in floor[1]:
                ahead = [stands_for(behind(floor, place, -1)) for place in (x, y)]
                self.assertEqual(partner(backward(floor), ahead[0]), ahead[1])
            self.assertEqual(len(backward(floor)[1]), len(floor[1]))

    def test_wrong(self):
        self.raises_in_order(backward, FLOOR_SLOT)
