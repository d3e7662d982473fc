"""Ways [5.1], from a beat on [5.2], certificates [5.3]."""

import itertools

import reference
from samples import (BARE, CHAIN, Case, EVEN, FLOOR, FLOOR_SLOT, FOURS, JUNK, NO_INTEGERS, PLACE_SLOT, POINT, POINTS,
                     SIX, THREES, TWO_PARTS, WRONG_FLOORS, WRONG_PLACES, few, some_floors, spoiled, without)
from touchrings.errors import BadFloor, BadNumber, BadPlace, BadWay
from touchrings.floors import places
from touchrings.ways import first_time, is_way, judge_stand, shortest_way, stand_holds, stands, times, way_end

SMALL = [FLOOR, EVEN, SIX, BARE, POINT, POINTS, TWO_PARTS]
SIXTEEN = ((7, 9), (((0, 0), (1, 0)),))
FORTIETH = ((19, 21), (((0, 0), (1, 0)),))
FAR = 10 ** 30
OTHER_SLOT = ("other", (0, 1), WRONG_PLACES, BadPlace)
WRONG_BEATS = NO_INTEGERS + [-1, -FAR]
WRONG_WAYS = without(JUNK, ()) + spoiled(((2, 1), (1, 0))) + [
    ((0, 0),), ((-1, 0),), ((1, 2),), ((1, -1),), ((2, 1, 0),), ((2,),), (2, 1), ((2, 1), 1), ((0, 1),),
    ((1, 10 ** 99),), ((1, 1),), ((3, 1),), ((2, 1), (1, 1)), ((2, 0), (1, 1)), ((2, 1), (0, 0)), (((2, 1), (1, 0)),),
    (("2", 0),), ((1, None),),
]


def end_of(floor, place, way):
    """The place to which a way leads [5.1], beat by beat; None if a run ends at a place without a partner."""
    for k, b in way:
        for _ in range(k):
            place = reference.behind(floor, place)
        if b == 1:
            place = reference.partner(floor, place)
            if place is None:
                return None
    return place


def label_step(floor, x, y):
    """The pair of the label of y less that of x by the number of their part, and that number, or None."""
    parts = reference.parts(floor)
    at, other = [[p for p, lot in enumerate(parts) if place[0] in lot][0] for place in (x, y)]
    numbers, labels = reference.numbers_and_labels(floor)
    label = dict(zip(places(floor), labels))
    return ((label[y] - label[x]) % numbers[at], numbers[at]) if at == other else None


class Ways(Case):
    def test_document_examples(self):
        self.same(way_end(EVEN, (0, 0), ((1, 1), (3, 0))), (1, 0))
        self.same(is_way(EVEN, (0, 0), ((2, 1),)), False)

    def test_no_beats(self):
        for floor in SMALL:
            for place in places(floor):
                self.assertIs(is_way(floor, place, ()), True)
                self.same(way_end(floor, place, ()), place)

    def test_as_defined(self):
        for floor in SMALL:
            for place in places(floor):
                for many in range(3):
                    for way in itertools.product(itertools.product([1, 2, 3, 6], [0, 1]), repeat=many):
                        end = end_of(floor, place, way)
                        self.assertIs(is_way(floor, place, way), end is not None)
                        if end is None:
                            self.raises(BadWay, way, way_end, floor, place, way)
                        else:
                            self.same(way_end(floor, place, way), end)

    def test_long_runs(self):
        self.same(way_end(way=((FAR, 1), (2, 0)), place=(1, 2), floor=FLOOR), (0, 0))
        self.assertIs(is_way(thing=((FAR + 1, 1),), place=(1, 2), floor=FLOOR), False)
        self.same(way_end(POINTS, (0, 0), ((1, 1), (3, 1), (FAR, 0)) * 133), (0, 0))

    def test_wrong(self):
        for thing in WRONG_WAYS:
            self.refuses(is_way, FLOOR, (1, 1), thing)
        self.raises_in_order(is_way, FLOOR_SLOT, PLACE_SLOT, ("thing", (), [], None))
        self.raises_in_order(way_end, few(FLOOR_SLOT), ("place", (1, 1), WRONG_PLACES, BadPlace),
                             ("way", ((2, 1), (1, 0)), WRONG_WAYS, BadWay))


class Stands(Case):
    def test_document_examples(self):
        self.same([stands(EVEN, (0, 0), 1), stands(EVEN, (0, 0), 2)], [((0, 1), (1, 1)), ((0, 0), (1, 2))])

    def test_as_gone_through(self):
        for floor in SMALL + [CHAIN] + some_floors(40):
            for place in places(floor)[::2]:
                for t, row in enumerate(reference.rows(floor, place, 9)):
                    self.same(stands(floor, place, t), tuple(sorted(row)))
        self.same(stands(t=3, place=(0, 0), floor=EVEN), ((0, 1), (1, 1), (1, 3)))

    def test_very_many_beats(self):
        for floor in SMALL + [SIXTEEN]:
            for place in places(floor):
                late = reference.rows(floor, place, 420)
                for t in [420, FAR, FAR + 1, FAR + 7]:
                    # From the sixtieth beat on all of these floors go on with 60, or with a part of it.
                    self.same(stands(floor, place, t), tuple(sorted(late[360 + t % 60])))

    def test_wrong(self):
        self.raises_in_order(stands, few(FLOOR_SLOT), PLACE_SLOT, ("t", 2, WRONG_BEATS, BadNumber))


class Times(Case):
    def test_document_examples(self):
        self.same([times(EVEN, (0, 0), (1, 0)), times(EVEN, (0, 0), (0, 0))], [((), 3, 0, 2), ((), 0, 0, 2)])
        self.same(first_time(EVEN, (0, 0), (1, 0)), 4)

    def test_as_gone_through(self):
        kinds = set()
        for floor in SMALL + [SIXTEEN, THREES, FOURS] + some_floors(25):
            for x in places(floor)[::3]:
                late = reference.rows(floor, x, 120 if floor == SIXTEEN else 60)
                for y in places(floor):
                    self.gone_through(floor, x, y, [y in row for row in late], kinds)
        self.assertEqual(kinds, {"few", "no few", "odd start", "start", "parts"})

    def gone_through(self, floor, x, y, can, kinds):
        step = label_step(floor, x, y)
        if step is None:
            self.assertIsNone(times(floor, x, y))
            self.assertIsNone(first_time(floor, x, y))
            self.assertIsNone(shortest_way(floor, x, y))
            kinds.add("parts")
            return
        d, g = step
        fits = [can[t] == (t % g == d) for t in range(len(can))]
        start = min(t for t in range(len(can)) if all(fits[t:]))
        self.assertLess(start, len(can) - 40)
        told = tuple(t for t in range(start) if can[t])
        self.same(times(floor, x, y), (told, start, d, g))
        self.same(first_time(floor, x, y), can.index(True))
        way = shortest_way(floor, x, y)
        self.assertEqual(end_of(floor, x, way), y)
        self.assertEqual(sum(k for k, _ in way), can.index(True))
        self.assertIs(is_way(floor, x, way), True)
        kinds |= {"few" if told else "no few", "start" if start % g == d else "odd start"}

    def test_by_name(self):
        self.same(times(other=(1, 0), place=(0, 0), floor=EVEN), ((), 3, 0, 2))
        self.same(first_time(other=(1, 0), place=(0, 0), floor=EVEN), 4)
        self.same(end_of(EVEN, (0, 0), shortest_way(other=(1, 0), place=(0, 0), floor=EVEN)), (1, 0))

    def test_unlike_parts(self):
        for x, y in [((0, 0), (1, 0)), ((1, 3), (0, 1))]:
            self.assertIsNone(times(BARE, x, y))
            self.assertIsNone(first_time(BARE, x, y))
            self.assertIsNone(shortest_way(BARE, x, y))

    def test_the_place_itself(self):
        for floor in SMALL:
            for place in places(floor):
                self.same(first_time(floor, place, place), 0)
                self.same(shortest_way(floor, place, place), ())

    def test_forty_places(self):
        told = [(0, 5) in row for row in reference.rows(FORTIETH, (0, 0), 450)]
        some, start, rest, number = times(FORTIETH, (0, 0), (0, 5))
        self.assertEqual((rest, number), (0, 1))
        self.assertEqual([t for t in range(450) if told[t]], list(some) + list(range(start, 450)))
        self.assertIs(told[start - 1], False)
        self.assertGreater(start, 300)

    def test_wrong(self):
        for call in [times, first_time, shortest_way]:
            self.raises_in_order(call, few(FLOOR_SLOT), PLACE_SLOT, OTHER_SLOT)


class Certificates(Case):
    def test_document_examples(self):
        self.assertEqual(judge_stand(EVEN, (0, 0), (1, 0), FAR)[0], "way")
        rows = ("rows", (((0, 0),), ((0, 1), (1, 1)), ((0, 0), (1, 2))))
        self.assertIs(stand_holds(EVEN, (0, 0), (1, 0), 2, rows), True)
        self.assertIs(stand_holds(EVEN, (0, 0), (1, 0), 5, ("labels", 2, (0, 1, 0, 1, 0, 1))), True)

    def test_by_name(self):
        told = judge_stand(t=FAR, other=(1, 0), place=(0, 0), floor=EVEN)
        self.assertIs(stand_holds(thing=told, t=FAR, other=(1, 0), place=(0, 0), floor=EVEN), True)

    def test_judge_stand(self):
        kinds = {}
        for floor in SMALL + some_floors(20):
            for x, y in itertools.product(places(floor)[::2], places(floor)):
                rows = reference.rows(floor, x, 8)
                for t in range(9):
                    told = judge_stand(floor, x, y, t)
                    self.assertEqual(told[0] == "way", y in rows[t])
                    self.right(floor, x, y, t, told)
                    kinds[told[0]] = told
        self.assertEqual(sorted(kinds), ["labels", "parts", "rows", "way"])

    def right(self, floor, x, y, t, told):
        """A returned certificate is right by the words of the document, and is accepted."""
        self.assertIs(stand_holds(floor, x, y, t, told), True)
        step = label_step(floor, x, y)
        if told[0] == "way":
            self.assertEqual(len(told), 2)
            self.assertEqual(sum(k for k, _ in told[1]), t)
            self.assertEqual(way_end(floor, x, told[1]), y)
            if t < 100:
                self.assertEqual(end_of(floor, x, told[1]), y)
        elif told[0] == "parts":
            self.assertEqual((told, step), (("parts",), None))
        elif told[0] == "labels":
            _, m, labelling = told
            lot = [lot for lot in reference.parts(floor) if x[0] in lot][0]
            self.assertTrue(reference.is_labelling(floor, lot, m, labelling))
            label = dict(zip(places(floor), labelling))
            self.assertTrue((label[y] - label[x] - t) % m != 0 and step is not None)
        else:
            self.assertEqual(told, ("rows", tuple(tuple(sorted(row)) for row in reference.rows(floor, x, t))))

    def test_very_many_beats(self):
        for floor in SMALL + [SIXTEEN]:
            for x, y in itertools.product(places(floor)[::3], places(floor)[::2]):
                for t in [FAR, FAR + 1, FAR - 1, 400]:
                    told = judge_stand(floor, x, y, t)
                    self.right(floor, x, y, t, told)
                    step = label_step(floor, x, y)
                    self.assertEqual(told[0] == "way", step is not None and t % step[1] == step[0])

    def test_no_beats(self):
        self.same(judge_stand(FLOOR, (0, 1), (0, 1), 0), ("way", ()))
        self.same(judge_stand(FLOOR, (0, 1), (1, 1), 0), ("rows", (((0, 1),),)))
        self.same(judge_stand(BARE, (0, 1), (1, 1), 0), ("parts",))
        self.assertIs(stand_holds(FLOOR, (0, 1), (0, 1), 0, ("rows", (((0, 1),),))), False)
        self.assertIs(stand_holds(FLOOR, (0, 1), (1, 1), 0, ("way", ())), False)
        self.assertIs(stand_holds(POINT, (0, 0), (0, 0), 5, ("way", ((5, 0),))), True)

    def test_the_last_beat_that_cannot_be_done(self):
        for y in places(SIXTEEN):
            start = times(SIXTEEN, (0, 0), y)[1]
            for t in range(max(0, start - 3), start + 3):
                told = judge_stand(SIXTEEN, (0, 0), y, t)
                self.assertEqual(told[0] == "way", y in stands(SIXTEEN, (0, 0), t))
                self.right(SIXTEEN, (0, 0), y, t, told)

    def test_wrong_ways(self):
        x, y, t = (1, 1), (0, 1), 3
        right = ("way", ((2, 1), (1, 0)))
        self.assertIs(stand_holds(FLOOR, x, y, t, right), True)
        wrong = [("way", ((2, 1),)), ("way", ((2, 1), (2, 0))), ("way", ((3, 0),)), ("way", ((1, 0), (1, 0), (1, 0))),
                 ("way", ((5, 1), (1, 0))), ("way", ((2, 1), (1, 1))), ("way", ((1, 1), (2, 0))),
                 ("way", ((2, 1), (3, 0))),
                 ("ways",) + right[1:], right + (0,), right[:1], right[1:], right[1]]
        for thing in JUNK + spoiled(right) + wrong:
            self.refuses(stand_holds, FLOOR, x, y, t, thing)
        self.assertIs(stand_holds(FLOOR, x, y, 5, ("way", ((2, 1), (3, 0)))), True)
        self.assertIs(stand_holds(FLOOR, x, y, FAR, ("way", ((2, 1), (FAR - 3, 0)))), False)
        self.assertIs(stand_holds(FLOOR, x, y, FAR + 1, ("way", ((2, 1), (FAR - 1, 0)))), True)

    def test_wrong_parts(self):
        for floor in SMALL:
            for x, y in itertools.product(places(floor), repeat=2):
                for t in [0, 3]:
                    wanted = label_step(floor, x, y) is None
                    self.assertIs(stand_holds(floor, x, y, t, ("parts",)), wanted)
        for thing in JUNK + spoiled(("parts",)) + [("parts", ()), ("parts", 0), "parts", ("part",)]:
            self.refuses(stand_holds, BARE, (0, 0), (1, 0), 1, thing)

    def test_all_labellings(self):
        for touch in [((0, 0), (1, 1)), ((1, 0), (2, 1))]:
            self.labellings_of(((2, 2, 2), (touch,)))

    def labellings_of(self, floor):
        label = places(floor)
        for x, y in itertools.product([(0, 0), (1, 0), (2, 1)], [(0, 1), (1, 1), (2, 0)]):
            step = label_step(floor, x, y)
            lot = [lot for lot in reference.parts(floor) if x[0] in lot][0]
            for t, m in itertools.product([0, 3, FAR], [1, 2, 3]):
                for thing in itertools.product(range(m), repeat=6):
                    told = dict(zip(label, thing))
                    wanted = step is not None and reference.is_labelling(floor, lot, m, thing)
                    wanted = wanted and (told[y] - told[x] - t) % m != 0
                    self.assertIs(stand_holds(floor, x, y, t, ("labels", m, thing)), wanted)

    def test_labels_wrong_at_one_place(self):
        floor, x, y, t = ((4, 8, 3), (((0, 1), (1, 2)), ((0, 2), (1, 7)))), (0, 0), (1, 4), 1
        right = judge_stand(floor, x, y, t)
        self.assertEqual(right[0], "labels")
        for at in range(15):
            for label in [-1, right[1], 10 ** 99, (right[2][at] + 1) % right[1]]:
                thing = right[2][:at] + (label,) + right[2][at + 1:]
                # Labels of other parts may be any ones below m.
                wanted = at >= 12 and 0 <= label < right[1]
                self.assertIs(stand_holds(floor, x, y, t, ("labels", right[1], thing)), wanted)
        wrong = [right + (0,), right[:2], right[1:], ("labels", right[2]), ("labels", right[2], right[1])]
        wrong += [("label",) + right[1:]]
        wrong += [("labels", m, right[2]) for m in [0, -4, 3, 1, 8, 10 ** 99]]
        wrong += [("labels", right[1], some) for some in [right[2][1:], right[2][:-1], right[2] + (0,), ()]]
        for thing in JUNK + spoiled(right) + wrong:
            self.refuses(stand_holds, floor, x, y, t, thing)

    def test_wrong_rows(self):
        x, y, t = (0, 0), (1, 0), 2
        right = ("rows", (((0, 0),), ((0, 1), (1, 1)), ((0, 0), (1, 2))))
        rows = right[1]
        self.assertIs(stand_holds(EVEN, x, y, t, right), True)
        wider = ("rows", (((0, 0), (1, 1)), ((0, 1), (1, 1), (1, 2)), ((0, 0), (1, 2), (1, 3))))
        self.assertIs(stand_holds(EVEN, x, y, t, wider), True)
        self.assertIs(stand_holds(EVEN, (1, 1), y, t, wider), True)
        lasts = [((0, 0),), ((1, 2),), ((1, 2), (0, 0)), ((0, 0), (1, 0), (1, 2)), ((0, 0), (0, 0), (1, 2)), (0, 1),
                 ((0, 0), (1, 2), (1, 4)), ((0, 0), (1, 2), (2, 0)), ((-1, 0), (0, 0), (1, 2)), ((0, 0), (1, 2), None)]
        wrong = [rows[:2] + (last,) for last in lasts] + [rows[:1] + (((u, 1),),) + rows[2:] for u in (0, 1)]
        wrong += [rows[1:], rows[:-1], rows + (((0, 1), (1, 3)),), rows[::-1], (), (((0, 1),),) + rows[1:],
                  ((),) + rows[1:], ((), (), ())]
        wrong = [("rows", some) for some in wrong] + [right + (0,), right[:1], right[1:], rows, ("row",) + right[1:]]
        for thing in JUNK + spoiled(right) + wrong:
            self.refuses(stand_holds, EVEN, x, y, t, thing)
        for far in [0, 1, 3, FAR]:
            self.refuses(stand_holds, EVEN, x, y, far, right)
        self.refuses(stand_holds, EVEN, x, (1, 2), t, right)
        self.refuses(stand_holds, EVEN, (0, 1), y, t, right)

    def test_rows_between_unlike_parts(self):
        rows = ("rows", (((0, 1),), ((0, 0),)))
        self.assertIs(stand_holds(BARE, (0, 1), (1, 0), 1, rows), True)
        self.assertIs(stand_holds(BARE, (0, 1), (0, 1), 1, rows), True)
        self.assertIs(stand_holds(BARE, (0, 1), (0, 0), 1, rows), False)

    def test_wrong(self):
        beats = ("t", 3, WRONG_BEATS, BadNumber)
        self.raises_in_order(judge_stand, few(FLOOR_SLOT), few(PLACE_SLOT), few(OTHER_SLOT), beats)
        self.raises_in_order(stand_holds, few(FLOOR_SLOT), few(PLACE_SLOT), few(OTHER_SLOT), beats,
                             ("thing", ("parts",), [], None))
        for thing in WRONG_FLOORS:
            self.raises(BadFloor, thing, judge_stand, thing, None, None, None)
            self.raises(BadFloor, thing, stand_holds, thing, None, None, None, None)
        for thing in WRONG_PLACES:
            for call, rest in [(judge_stand, [None]), (stand_holds, [None, None])]:
                self.raises(BadPlace, thing, call, FLOOR, thing, None, *rest)
                self.raises(BadPlace, thing, call, FLOOR, (0, 0), thing, *rest)
