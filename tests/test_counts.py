"""How many arrangements can be called, and their numbers [6.4]."""

import itertools
import math
import random

import reference
from samples import (BARE, CHAIN, Case, EVEN, FLOOR, FLOORS, FLOOR_SLOT, FORTY, NO_INTEGERS, POINT, POINTS, SIX,
                     TWO_PARTS, WRONG_ARRANGEMENTS, few, some_floors)
from touchrings.called import called_rest
from touchrings.counts import arrangement_with, many_arrangements, number_of
from touchrings.errors import BadArrangement, BadNumber
from touchrings.plans import home, is_arrangement

SMALL = [FLOOR, POINT, POINTS, EVEN, SIX, BARE, ((4,), (((0, 0), (0, 2)),)), ((5,), ()), ((2, 3), ()), ((2, 2, 2), ()),
         ((1, 3, 1), (((0, 0), (1, 1)),)), ((2, 4), (((1, 0), (1, 2)),)), ((2, 2, 2), (((0, 0), (2, 1)),)),
         ((3, 2), (((0, 0), (0, 1)),)), ((2, 1, 2, 1), (((0, 0), (2, 1)), ((1, 0), (3, 0))))]
WIDE = [((40,), ()), ((8, 9, 5, 7, 11), ()), ((19, 21), (((0, 0), (1, 0)),)), ((10, 20, 10), (((0, 0), (1, 0)),)),
        FORTY]


def callable_from_home(floor):
    """All arrangements that can be called from home, by all rows of calls, ascending."""
    found, newest = {home(floor)}, {home(floor)}
    while newest:
        newest = {reference.beat(floor, now, call) for now in newest for call in reference.calls(floor)} - found
        found |= newest
    return sorted(found)


class Counts(Case):
    def test_document_examples(self):
        self.same([many_arrangements(EVEN), many_arrangements(FLOOR)], [72, 120])
        self.same(number_of(FLOOR, (4, 0, 1, 2, 3)), 96)
        self.same(arrangement_with(FLOOR, 96), (4, 0, 1, 2, 3))
        self.same(number_of(EVEN, (1, 0, 2, 3, 4, 5)), None)

    def test_by_name(self):
        self.same(many_arrangements(floor=EVEN), 72)
        self.same(number_of(arrangement=(4, 0, 1, 2, 3), floor=FLOOR), 96)
        self.same(arrangement_with(number=96, floor=FLOOR), (4, 0, 1, 2, 3))

    def test_all_of_small_floors(self):
        for floor in SMALL + [floor for floor in some_floors(80) if sum(floor[0]) <= 6]:
            found = callable_from_home(floor)
            self.same(many_arrangements(floor), len(found))
            for number, arrangement in enumerate(found):
                self.same(number_of(floor, arrangement), number)
                self.same(arrangement_with(floor, number), arrangement)
            if sum(floor[0]) <= 6:
                numbers = {arrangement: number for number, arrangement in enumerate(found)}
                for arrangement in itertools.permutations(home(floor)):
                    self.same(number_of(floor, arrangement), numbers.get(arrangement))

    def test_first_and_last(self):
        for floor in FLOORS + SMALL + WIDE:
            self.same(arrangement_with(floor, 0), home(floor))
            self.same(number_of(floor, home(floor)), 0)
            last = many_arrangements(floor) - 1
            self.same(number_of(floor, arrangement_with(floor, last)), last)
            for number in [-1, last + 1, 10 ** 99]:
                self.raises(BadNumber, number, arrangement_with, floor, number)

    def test_wide_floors(self):
        self.same(many_arrangements(WIDE[0]), 40)
        self.same(many_arrangements(WIDE[1]), 8 * 9 * 5 * 7 * 11)
        self.same(many_arrangements(WIDE[2]), math.factorial(40))
        self.same(many_arrangements(WIDE[3]), 10 * math.factorial(3) ** 10)
        self.same(many_arrangements(FORTY), 2 ** 20)

    def test_they_undo_each_other_and_ascend(self):
        chance = random.Random(4)
        for floor in [CHAIN, TWO_PARTS] + WIDE[:3] + WIDE[4:] + some_floors(30):
            many = many_arrangements(floor)
            numbers = sorted({chance.randrange(many) for _ in range(12)})
            found = [arrangement_with(floor, number) for number in numbers]
            self.assertEqual(found, sorted(found))
            for number, arrangement in zip(numbers, found):
                self.assertIs(is_arrangement(floor, arrangement), True)
                self.assertIsNotNone(called_rest(floor, home(floor), arrangement))
                self.same(number_of(floor, arrangement), number)

    def test_arrangements_that_cannot_be_called(self):
        chance = random.Random(6)
        for floor in [EVEN, BARE, TWO_PARTS, WIDE[0], WIDE[3]]:
            for _ in range(30):
                arrangement = tuple(chance.sample(home(floor), len(home(floor))))
                wanted = called_rest(floor, home(floor), arrangement) is None
                self.assertEqual(number_of(floor, arrangement) is None, wanted)

    def test_wrong(self):
        self.raises_in_order(many_arrangements, FLOOR_SLOT)
        self.raises_in_order(number_of, few(FLOOR_SLOT),
                             ("arrangement", (4, 0, 1, 2, 3), WRONG_ARRANGEMENTS, BadArrangement))
        self.raises_in_order(arrangement_with, FLOOR_SLOT,
                             ("number", 119, NO_INTEGERS + [-1, 120, 10 ** 99], BadNumber))
