"""Labellings [4.1], walks [4.2], numbers [4.3], certificates [4.4], free floors [4.5], longer rings [4.6]."""

import itertools
import math

import reference
from samples import (BARE, CHAIN, Case, EVEN, FLOOR, FLOORS, FLOOR_SLOT, FORTY, FOURS, JUNK, LONG, NO_INTEGERS,
                     PLACE_SLOT, POINT, POINTS, SIX, THREES, TWO_PARTS, WRONG_FLOORS, few, some_floors, spoiled,
                     without)
from touchrings.errors import BadFloor, BadNumber, BadWay, NotJoined
from touchrings.floors import is_joined, partner, parts, places, within
from touchrings.labels import (classes, inner_number, is_free, judge_labels, judge_number, labels, labels_hold,
                               lengths_for, number_holds, part_numbers, walked)

TWELVE = ((12,), (((0, 0), (0, 4)), ((0, 1), (0, 9))))
MIXED = ((4, 6, 1, 2), (((0, 0), (3, 1)), ((1, 0), (1, 3))))
LOOSE = ((40,), ())
ODD = ((19, 21), (((0, 0), (1, 0)),))
JOINED = [FLOOR, EVEN, SIX, POINT, CHAIN, THREES, TWELVE, FOURS]
ALL = FLOORS[:-1] + [THREES, TWELVE, FOURS, MIXED]
WRONG_NUMBERS = NO_INTEGERS + [0, -1, -10 ** 99]
NUMBER_SLOT = ("m", 3, WRONG_NUMBERS, BadNumber)


def sum_of(walk):
    return sum(item for item in walk if item != "touch")


def leads(floor, place, walk):
    """The place to which a walk leads [4.2], step by step; None if some item is none."""
    for item in walk:
        if item == "touch":
            place = reference.partner(floor, place)
            if place is None:
                return None
        elif type(item) is not int or item == 0:
            return None
        else:
            u, i = place
            place = (u, (i + item) % floor[0][u])
    return place


class Numbers(Case):
    def test_document_examples(self):
        self.same([part_numbers(floor) for floor in (FLOOR, EVEN, SIX)], [(1,), (2,), (2,)])
        self.same(labels(EVEN), (0, 1, 0, 1, 0, 1))
        self.same(classes(EVEN), (((0, 0), (1, 0), (1, 2)), ((0, 1), (1, 1), (1, 3))))
        self.same([is_free(FLOOR), is_free(EVEN)], [True, False])

    def test_by_name(self):
        self.same(part_numbers(floor=EVEN), (2,))
        self.same(labels(floor=EVEN), (0, 1, 0, 1, 0, 1))
        self.same(classes(floor=POINTS), (((0, 0), (2, 0)), ((1, 0),)))
        self.same(is_free(floor=FLOOR), True)

    def test_greater_numbers(self):
        self.same([part_numbers(floor) for floor in (THREES, TWELVE, FOURS)], [(3,), (4,), (4,)])
        self.same([part_numbers(floor) for floor in (LOOSE, POINT)], [(40,), (1,)])
        self.same(part_numbers(TWO_PARTS), (1, 1))
        self.same(part_numbers(BARE), (2, 4))
        self.same(part_numbers(MIXED), (2, 3, 1))
        self.same(part_numbers(FORTY), (1,) * 20)
        self.same(labels(THREES), (0, 1, 2, 2, 0, 1, 2, 0, 1, 2, 0, 1))
        self.same(labels(MIXED), (0, 1, 0, 1, 0, 1, 2, 0, 1, 2, 0, 1, 0))

    def test_numbers_and_labels_as_defined(self):
        for floor in ALL + some_floors(120):
            self.assertEqual(list(parts(floor)), reference.parts(floor))
            numbers, told = reference.numbers_and_labels(floor)
            self.same(part_numbers(floor), numbers)
            self.same(labels(floor), told)
            for lot, number in zip(parts(floor), numbers):
                for m in range(1, 8):
                    self.assertEqual(bool(reference.labellings(floor, lot, m)), number % m == 0)

    def test_numbers_are_of_the_sums_of_rounds(self):
        for floor in ALL + some_floors(40):
            for lot, number in zip(parts(floor), part_numbers(floor)):
                self.assertEqual(number, math.gcd(*reference.round_sums(floor, (lot[0], 0), 14, False)))

    def test_numbers_of_floors_within_the_parts(self):
        for floor in ALL + some_floors(40):
            alone = [within(floor, lot) for lot in parts(floor)]
            self.same(part_numbers(floor), sum([part_numbers(part) for part in alone], ()))
            told = dict(zip(places(floor), labels(floor)))
            for lot, part in zip(parts(floor), alone):
                self.same(labels(part), tuple(told[place] for place in places(floor) if place[0] in lot))

    def test_classes_as_defined(self):
        for floor in ALL + some_floors(60):
            found = {}
            for place, label in zip(places(floor), labels(floor)):
                part = [at for at, lot in enumerate(parts(floor)) if place[0] in lot]
                found.setdefault((part[0], label), []).append(place)
            self.same(classes(floor), tuple(sorted(tuple(lot) for lot in found.values())))

    def test_is_free(self):
        for floor in ALL + some_floors(60):
            self.assertIs(is_free(floor), len(parts(floor)) == 1 and part_numbers(floor) == (1,))
        self.assertIs(is_free(POINT), True)
        self.assertIs(is_free(POINTS), False)

    def test_wrong_floors(self):
        for call in [part_numbers, labels, classes, is_free]:
            self.raises_in_order(call, FLOOR_SLOT)


class Walks(Case):
    def test_walked(self):
        self.same(walked(FLOOR, (1, 1), (2, "touch", 1)), (0, 1))
        self.same(walked(walk=(-10001, "touch"), place=(0, 1), floor=FLOOR), (1, 0))
        self.same(walked(FLOOR, (1, 1), ()), (1, 1))
        self.same(walked(SIX, (0, 0), ("touch", "touch", "touch", 4)), (0, 0))
        self.same(walked(LONG, (0, 5), (10 ** 30 - 6, "touch", -2)), (1, 0))
        self.same(walked(POINT, (0, 0), (1, -1, 5) * 133), (0, 0))

    def test_walked_as_defined(self):
        for floor in [FLOOR, EVEN, SIX, POINTS, TWO_PARTS]:
            for place in places(floor):
                for walk in itertools.product([-3, -1, 1, 2, "touch"], repeat=3):
                    end = leads(floor, place, walk)
                    if end is None:
                        self.raises(BadWay, walk, walked, floor, place, walk)
                    else:
                        self.same(walked(floor, place, walk), end)

    def test_wrong(self):
        walks = without(JUNK, ()) + spoiled((2, "touch", 1)) + [
            (0,), (2, 0, "touch"), ("touch",), (1, "touch"), (2, "touch", 1, "touch"), (True,), (2, "Touch"),
            (2, ("touch",)), ((2, 1),), (2, b"touch"), (1, None), "touch", (2, "touch", False),
        ]
        self.raises_in_order(walked, FLOOR_SLOT, ("place", (1, 1), PLACE_SLOT[2], PLACE_SLOT[3]),
                             ("walk", (2, "touch"), walks, BadWay))


class Certificates(Case):
    def test_document_examples(self):
        self.assertEqual(judge_labels(EVEN, 3)[0], "round")
        self.assertIs(labels_hold(EVEN, 2, ("labels", (1, 0, 1, 0, 1, 0))), True)
        self.assertIs(labels_hold(EVEN, 4, ("round", (0, 0), (1, "touch", 2, "touch", 1))), False)
        self.assertIs(number_holds(EVEN, ("number", 2, (0, 1, 0, 1, 0, 1), (((0, 0), (2,)),))), True)

    def test_by_name(self):
        self.assertEqual(judge_labels(m=2, floor=EVEN)[0], "labels")
        self.assertIs(labels_hold(thing=("labels", (1, 0, 1, 0, 1, 0)), m=2, floor=EVEN), True)
        self.assertIs(number_holds(thing=judge_number(floor=EVEN), floor=EVEN), True)

    def test_judge_labels(self):
        for floor in JOINED + [floor for floor in some_floors(80) if is_joined(floor)] + [ODD, LOOSE, POINT]:
            number = part_numbers(floor)[0]
            for m in list(range(1, 13)) + [number, 2 * number, 1000, 10 ** 30]:
                told = judge_labels(floor, m)
                self.assertIs(labels_hold(floor, m, told), True)
                self.assertEqual(told[0], "labels" if number % m == 0 else "round")
                if told[0] == "labels":
                    self.assertEqual(len(told), 2)
                    self.assertTrue(reference.is_labelling(floor, range(len(floor[0])), m, told[1]))
                else:
                    self.assertEqual(len(told), 3)
                    self.assertEqual(leads(floor, told[1], told[2]), told[1])
                    self.assertNotEqual(sum_of(told[2]) % m, 0)

    def test_the_labelling_to_one(self):
        for floor in JOINED:
            self.same(judge_labels(floor, 1), ("labels", (0,) * len(places(floor))))
        for m in [2, 3, 1000]:
            self.assertEqual(judge_labels(POINT, m)[0], "round")
        self.assertIs(labels_hold(POINT, 1, ("labels", (0,))), True)
        self.assertIs(labels_hold(POINT, 2, ("labels", (0,))), False)
        self.assertIs(labels_hold(POINT, 2, ("round", (0, 0), (1,))), True)

    def test_all_labellings(self):
        twos, late = ((2, 2), (((0, 0), (1, 0)),)), ((4, 2), (((0, 3), (1, 0)),))
        for floor, m in [(EVEN, 2), (EVEN, 3), (FLOOR, 1), (FLOOR, 2), (twos, 2), (late, 2), (((4,), ()), 4)]:
            lot = range(len(floor[0]))
            for thing in itertools.product(range(-1, m + 1), repeat=len(places(floor))):
                self.assertIs(labels_hold(floor, m, ("labels", thing)), reference.is_labelling(floor, lot, m, thing))

    def test_all_short_rounds(self):
        for floor in [FLOOR, EVEN, SIX]:
            for place in places(floor):
                for many in range(5):
                    for walk in itertools.product([-2, 1, 3, "touch"], repeat=many):
                        for m in [1, 2, 3]:
                            wanted = leads(floor, place, walk) == place and sum_of(walk) % m != 0
                            self.assertIs(labels_hold(floor, m, ("round", place, walk)), wanted)

    def test_labels_wrong_at_one_place(self):
        for floor, m in [(THREES, 3), (FOURS, 2), (TWELVE, 4)]:
            right = judge_labels(floor, m)
            for at in range(len(right[1])):
                for label in [-1, m, (right[1][at] + 1) % m, 10 ** 99]:
                    thing = right[1][:at] + (label,) + right[1][at + 1:]
                    self.refuses(labels_hold, floor, m, ("labels", thing))
            for thing in [right[1][1:], right[1][:-1], right[1] + (0,), (), right[1] * 2]:
                self.refuses(labels_hold, floor, m, ("labels", thing))
            for thing in JUNK + spoiled(right) + [right + (0,), right[:1], right[1:], ("label",) + right[1:], right[1]]:
                self.refuses(labels_hold, floor, m, thing)

    def test_rounds_wrong_at_one_place(self):
        right = ("round", (1, 1), (2, "touch", 2, "touch", 1))
        self.assertIs(labels_hold(FLOOR, 3, right), True)
        self.assertIs(labels_hold(FLOOR, 5, right), False)
        wrong = [right + (0,), right[:2], right[1:], ("round", right[2], (1, 1)), ("round",)]
        wrong += [("round", place, right[2]) for place in [(1, 2), (0, 1), (1, 3), (-1, 1), ()]]
        walks = [right[2] + (1,), right[2][:-1], (), (3,), (1,), ("touch", "touch", 1), (2, "touch", 2, 0, "touch", 1)]
        wrong += [("round", (1, 1), walk) for walk in walks]
        for thing in spoiled(right) + wrong:
            self.refuses(labels_hold, FLOOR, 3, thing)

    def test_judge_number(self):
        for floor in JOINED + [floor for floor in some_floors(80) if is_joined(floor)] + [ODD, LOOSE]:
            told = judge_number(floor)
            self.assertIs(number_holds(floor, told), True)
            word, number, labelling, rounds = told
            self.assertEqual((word, number), ("number", part_numbers(floor)[0]))
            self.assertTrue(reference.is_labelling(floor, range(len(floor[0])), number, labelling))
            self.assertTrue(rounds)
            for place, walk in rounds:
                self.assertEqual(leads(floor, place, walk), place)
                self.assertTrue(all(item == "touch" or abs(item) <= 10000 for item in walk) and len(walk) <= 400)
            self.assertEqual(math.gcd(*[sum_of(walk) for _, walk in rounds]), number)

    def test_number_holds(self):
        loop, both = ((0, 0), (2,)), ((1, 0), (4, -2, -4, 8))
        labelling = (1, 0, 1, 0, 1, 0)
        right = [(loop,), (loop, ((1, 0), (4,))), (loop, ((0, 0), ())), (((0, 0), (-2,)),), (loop, loop),
                 (((1, 0), (4,)), ((0, 0), (6,)))]
        wrong = [(), (((1, 0), (4,)),), (((0, 0), ()),), (both,), (loop, ((0, 0), (1,))), (((0, 0), (2, -2)),),
                 (loop, ((0, 1), ("touch",)))]
        for rounds in right + wrong:
            self.assertIs(number_holds(EVEN, ("number", 2, labelling, rounds)), rounds in right, rounds)
        for number in [1, 4, 0, -2, 10 ** 99]:
            self.refuses(number_holds, EVEN, ("number", number, labelling, (loop,)))
            self.refuses(number_holds, EVEN, ("number", number, (0,) * 6, (loop,)))
        for other in [(0,) * 6, labelling[:5], labelling + (1,), (2, 0, 1, 0, 1, 0), (-1, 0, 1, 0, 1, 0)]:
            self.refuses(number_holds, EVEN, ("number", 2, other, (loop,)))
        right = ("number", 2, labelling, (loop, ((1, 1), ("touch", 2, "touch"))))
        self.assertIs(number_holds(EVEN, right), True)
        wrong = [right + (0,), right[:3], right[1:], ("numbers",) + right[1:], ("number", 2)]
        some = [loop, (loop, ()), (loop, ((2, 0), (1,))), (loop + (1,),), ((loop,),)]
        wrong += [right[:3] + (rounds,) for rounds in some]
        for thing in JUNK + spoiled(right) + wrong:
            self.refuses(number_holds, EVEN, thing)
        self.assertIs(number_holds(FLOOR, ("number", 1, (0,) * 5, (((0, 0), (2,)), ((1, 0), (3,))))), True)

    def test_not_joined(self):
        for floor in [BARE, POINTS, TWO_PARTS, MIXED, FORTY]:
            calls = [(judge_number, ()), (inner_number, ()), (number_holds, (None,)), (judge_labels, (2,)),
                     (judge_labels, (0,)), (labels_hold, (2, None)), (labels_hold, (None, None)), (lengths_for, (2,)),
                     (lengths_for, (True,))]
            for call, rest in calls:
                self.assertIs(type(self.raised(call, floor, *rest)), NotJoined)
        self.assertIs(type(self.raised(judge_labels, m=[], floor=BARE)), NotJoined)

    def test_wrong(self):
        self.raises_in_order(judge_labels, few(FLOOR_SLOT), NUMBER_SLOT)
        self.raises_in_order(labels_hold, few(FLOOR_SLOT), NUMBER_SLOT, ("thing", ("labels", ()), [], None))
        for call in [judge_number, inner_number]:
            self.raises_in_order(call, FLOOR_SLOT)
        self.raises_in_order(number_holds, few(FLOOR_SLOT), ("thing", (), [], None))
        for thing in WRONG_FLOORS:
            for call in [judge_labels, labels_hold, lengths_for, number_holds]:
                rest = [None, None][:2 if call is labels_hold else 1]
                self.raises(BadFloor, thing, call, thing, *rest)


class LongerRings(Case):
    def test_document_examples(self):
        self.same([inner_number(EVEN), inner_number(SIX), lengths_for(SIX, 3)], [0, 2, None])

    def test_inner_number(self):
        self.same(inner_number(floor=FLOOR), 0)
        self.same([inner_number(floor) for floor in (POINT, LOOSE, THREES, TWELVE, FOURS, CHAIN)], [0, 0, 0, 4, 4, 0])
        for floor in JOINED + [floor for floor in some_floors(150) if is_joined(floor)]:
            sums = reference.round_sums(floor, (0, 0), 30, True)
            self.same(inner_number(floor), math.gcd(*sums))

    def test_lengths_for(self):
        for floor in JOINED + [floor for floor in some_floors(100) if is_joined(floor)]:
            inner = inner_number(floor)
            for m in list(range(1, 14)) + [1000]:
                lengths = lengths_for(floor, m)
                if len(floor[0]) == 1 and inner == 0:
                    wanted = m >= floor[0][0]
                else:
                    wanted = inner % m == 0
                self.assertEqual(lengths is not None, wanted, (floor, m))
                if lengths is not None:
                    self.fit(floor, lengths, m)

    def fit(self, floor, lengths, m):
        self.assertIs(type(lengths), tuple)
        self.assertEqual(len(lengths), len(floor[0]))
        for length, least in zip(lengths, floor[0]):
            self.assertIs(type(length), int)
            self.assertTrue(least <= length <= 10 ** 30)
        self.same(part_numbers((lengths, floor[1])), (m,))

    def test_one_ring_longer_as_gone_through(self):
        for floor in [POINT, SIX, TWELVE, ((5,), ()), ((7,), (((0, 0), (0, 3)),)), ((8,), (((0, 1), (0, 7)),))]:
            found = {part_numbers(((length,), floor[1]))[0] for length in range(floor[0][0], floor[0][0] + 60)}
            for m in range(1, 40):
                self.assertEqual(lengths_for(floor, m) is not None, m in found, (floor, m))

    def test_by_name(self):
        self.fit(EVEN, lengths_for(m=5, floor=EVEN), 5)

    def test_numbers_beyond(self):
        self.assertIsNone(lengths_for(EVEN, 10 ** 31))
        self.fit(EVEN, lengths_for(EVEN, 10 ** 30), 10 ** 30)
        self.assertIsNone(lengths_for(SIX, 10 ** 99))

    def test_wrong(self):
        self.raises_in_order(lengths_for, few(FLOOR_SLOT), NUMBER_SLOT)


class Wholes(Case):
    def test_each_label_class_has_equally_many_places_of_each_ring(self):
        for floor in ALL + some_floors(40):
            for lot in parts(floor):
                for u in lot:
                    many = [sum(place[0] == u for place in one) for one in classes(floor) if one[0][0] in lot]
                    self.assertEqual(len(set(many)), 1)

    def test_partners_share_a_class(self):
        for floor in ALL:
            for one in classes(floor):
                for place in one:
                    self.assertIn(partner(floor, place) or place, one)
