"""Meeting [8.1], kept apart [8.2], at the latest [8.3]."""

import functools
import itertools

import reference
from samples import (BARE, CHAIN, CHANGE, Case, EVEN, FLOOR, FLOORS, FLOOR_SLOT, JUNK, PLACE_SLOT, POINT, POINTS, SIX,
                     TWO_PARTS, WRONG_FLOORS, WRONG_PLACES, few, some_floors, spoiled)
from touchrings.errors import BadFloor, BadPlace
from touchrings.figures import order_of
from touchrings.floors import places
from touchrings.kinds import guise_after
from touchrings.pairs import (apart_holds, can_meet, first_meeting, judge_apart, judge_meeting, latest_meeting,
                              meeting_holds)
from touchrings.plans import after, beats_of, home, plan_back

INNER = ((4,), (((0, 0), (0, 1)),))
SMALL = [FLOOR, POINT, POINTS, EVEN, SIX, BARE, TWO_PARTS, INNER, ((5,), ()), ((2, 2, 2), (((0, 0), (2, 1)),)),
         ((1, 3, 1), (((0, 0), (1, 1)), ((1, 2), (2, 0)))), ((3, 3), (((0, 0), (1, 0)), ((0, 1), (1, 2)))),
         ((4, 4), (((0, 0), (1, 0)), ((0, 2), (1, 1)), ((0, 3), (1, 2))))]
# Of fourteen places.
WIDE = [((7, 7), (((0, 0), (1, 0)),)), ((13, 1), (((0, 4), (1, 0)),)), ((14,), (((0, 0), (0, 7)), ((0, 1), (0, 4)))),
        ((5, 9), (((0, 0), (1, 0)), ((0, 1), (1, 3)), ((1, 1), (1, 7)))),
        ((6, 8), (((0, 0), (1, 1)), ((0, 3), (1, 6)))),
        ((2, 3, 4, 5), (((0, 0), (1, 0)), ((1, 1), (2, 0)), ((2, 2), (3, 4)), ((2, 3), (3, 1))))]
OTHER_SLOT = ("other", (0, 1), WRONG_PLACES, BadPlace)
FUNCTIONS = [can_meet, first_meeting, judge_meeting, judge_apart, latest_meeting]


@functools.cache
def moved(floor, call):
    """The dict of where a beat with a call leads each place."""
    now = reference.beat(floor, tuple(places(floor)), call)
    return {place: reference.place_of(floor, now, place) for place in places(floor)}


@functools.cache
def later(floor, couple):
    """The couples that all calls can make of a couple in one beat."""
    return {tuple(moved(floor, call)[x] for x in couple) for call in reference.calls(floor)}


def meet(floor, couple):
    return tuple(sorted(couple)) in floor[1]


def story(floor, x, y):
    """The pair of the first beat and of the latest one behind which two dancers meet, by all calls; None for none."""
    rows = [{(x, y)}]
    while rows[-1] - set().union(*rows[:-1]):
        rows.append({one for couple in rows[-1] for one in later(floor, couple)})
    first = [b for b, row in enumerate(rows) if any(meet(floor, couple) for couple in row)]
    # The same once more, with those only who have not met; if they come again they can be kept apart.
    rows = [frozenset([(x, y)])]
    while rows[-1] not in rows[:-1]:
        apart = [couple for couple in rows[-1] if not meet(floor, couple)]
        if not apart:
            return first[0], len(rows) - 1
        rows.append(frozenset(one for couple in apart for one in later(floor, couple)))
    return first[0] if first else None, None


def lots_of(floor):
    return {frozenset(lot) for lot in reference.classes(floor)}


def meets(floor, x, y, calls):
    """The numbers of the beats behind which two dancers meet, by all these calls, one behind the other."""
    couple, found = (x, y), [0] if meet(floor, (x, y)) else []
    for beat, call in enumerate(calls):
        couple = tuple(moved(floor, call)[one] for one in couple)
        found += [beat + 1] if meet(floor, couple) else []
    return found


class Pairs(Case):
    def meeting_is_right(self, floor, x, y, told):
        """A certificate about a meeting is right by the words of the document, and is accepted."""
        self.assertIs(meeting_holds(floor, x, y, told), True)
        lots = [[lot for lot in reference.parts(floor) if place[0] in lot][0] for place in (x, y)]
        if told[0] == "plan":
            self.plan_is_small(floor, told[1])
            calls = reference.rolled(told[1])
            self.assertIn(len(calls), meets(floor, x, y, calls))
        elif told[0] == "parts":
            self.assertEqual(told, ("parts",))
            self.assertNotEqual(lots[0], lots[1])
        else:
            word, m, labelling = told
            label = dict(zip(places(floor), labelling))
            self.assertTrue(word == "labels" and m >= 1 and lots[0] == lots[1])
            self.assertTrue(reference.is_labelling(floor, lots[0], m, labelling))
            self.assertNotEqual(label[x], label[y])

    def apart_is_right(self, floor, x, y, told):
        """A certificate about being kept apart is right by the words of the document, and is accepted."""
        self.assertIs(apart_holds(floor, x, y, told), True)
        if told[0] == "loop":
            word, plan, again = told
            for some in (plan, again):
                self.plan_is_small(floor, some)
            calls, more = reference.rolled(plan), reference.rolled(again)
            self.assertGreater(len(more), 0)
            self.assertEqual(meets(floor, x, y, calls + more * (3 + 200 // len(more))), [])
        else:
            word, rows = told
            ranks = dict(rows)
            self.assertTrue(word == "ranks" and list(rows) == sorted(rows) and len(ranks) == len(rows))
            self.assertTrue((x, y) in ranks or meet(floor, (x, y)))
            for couple, rank in rows:
                self.assertTrue(type(rank) is int and rank >= 0 and couple[0] != couple[1])
                for one in later(floor, couple):
                    self.assertTrue(meet(floor, one) or ranks[one] < rank)


class Meetings(Pairs):
    def test_document_examples(self):
        told = [can_meet(EVEN, (0, 0), (1, 0)), first_meeting(EVEN, (0, 0), (1, 0)), can_meet(EVEN, (0, 0), (0, 1))]
        self.same(told, [True, 1, False])
        self.assertIs(meeting_holds(EVEN, (0, 0), (0, 1), ("labels", 2, (0, 1, 0, 1, 0, 1))), True)

    def test_by_name(self):
        self.assertIs(can_meet(other=(1, 0), place=(0, 0), floor=EVEN), True)
        self.same(first_meeting(other=(1, 0), place=(0, 0), floor=EVEN), 1)
        told = judge_meeting(other=(1, 0), place=(0, 0), floor=EVEN)
        self.assertIs(meeting_holds(thing=told, other=(1, 0), place=(0, 0), floor=EVEN), True)

    def test_all_calls_gone_through(self):
        words = set()
        for floor in SMALL + [CHAIN] + [floor for floor in some_floors(40) if sum(floor[0]) <= 8]:
            lots = lots_of(floor)
            for x, y in itertools.permutations(places(floor), 2):
                first, latest = story(floor, x, y)
                self.same(first_meeting(floor, x, y), first)
                self.assertIs(can_meet(floor, x, y), first is not None)
                self.assertEqual(first is not None, any(x in lot and y in lot for lot in lots))
                self.same(latest_meeting(floor, x, y), latest)
                told, kept = judge_meeting(floor, x, y), judge_apart(floor, x, y)
                self.assertEqual(told[0] == "plan", first is not None)
                self.assertEqual(kept[0], "loop" if latest is None else "ranks")
                self.meeting_is_right(floor, x, y, told)
                self.apart_is_right(floor, x, y, kept)
                words |= {told[0], kept[0]}
        self.assertEqual(words, {"plan", "parts", "labels", "loop", "ranks"})

    def test_fourteen_places(self):
        for floor in WIDE:
            for x, y in list(itertools.permutations(places(floor), 2))[::7]:
                first, latest = story(floor, x, y)
                self.same([first_meeting(floor, x, y), latest_meeting(floor, x, y)], [first, latest])
                self.meeting_is_right(floor, x, y, judge_meeting(floor, x, y))
                self.apart_is_right(floor, x, y, judge_apart(floor, x, y))

    def test_partners_meet_at_the_beginning(self):
        for floor in SMALL:
            for x, y in floor[1]:
                for one, other in [(x, y), (y, x)]:
                    self.same([can_meet(floor, one, other), first_meeting(floor, one, other)], [True, 0])
                    self.same(latest_meeting(floor, one, other), 0)
                    self.assertEqual(beats_of(floor, judge_meeting(floor, one, other)[1]), 0)
                    self.assertIs(meeting_holds(floor, one, other, ("plan", ())), True)
                    self.assertEqual(judge_apart(floor, one, other)[0], "ranks")

    def test_a_part_without_a_touch(self):
        for x, y in itertools.permutations(places(((5,), ())), 2):
            self.same([can_meet(((5,), ()), x, y), first_meeting(((5,), ()), x, y)], [False, None])
            self.assertEqual(judge_meeting(((5,), ()), x, y)[0], "labels")

    def test_unlike_parts(self):
        for x, y in [((0, 0), (1, 0)), ((1, 3), (0, 1))]:
            self.same([can_meet(BARE, x, y), first_meeting(BARE, x, y), judge_meeting(BARE, x, y)],
                      [False, None, ("parts",)])
        self.same(can_meet(POINTS, (0, 0), (1, 0)), False)
        self.same(can_meet(POINTS, (0, 0), (2, 0)), True)

    def test_plans_may_be_passed_on(self):
        for floor in WIDE[:3]:
            x, y = [(0, 1), (0, 3)] if floor == WIDE[2] else [(0, 3), floor[1][0][1]]
            told, kept = judge_meeting(floor, x, y), judge_apart(floor, x, y)
            for plan in [told[1] if told[0] == "plan" else ()] + list(kept[1:] if kept[0] == "loop" else []):
                self.same(guise_after(floor, tuple(s % 10 for s in home(floor)), plan),
                          tuple(s % 10 for s in after(floor, home(floor), plan)))
                self.assertIs(type(order_of(floor, plan)), int)
                self.assertEqual(beats_of(floor, plan), len(plan_back(floor, plan)))

    def test_wrong_plans(self):
        x, y = (0, 1), (1, 2)
        right = ("plan", (("beat", ()),))
        self.assertIs(meeting_holds(FLOOR, x, y, right), True)
        self.assertIs(meeting_holds(FLOOR, x, y, ("plan", CHANGE)), True)
        self.assertIs(meeting_holds(FLOOR, x, y, ("plan", (("times", 6 * 10 ** 29 + 1, right[1]),))), True)
        self.assertIs(meeting_holds(FLOOR, x, y, ("plan", (("times", 6 * 10 ** 29 + 2, right[1]),))), False)
        wrong = [("plan", plan) for plan in [(), right[1] * 2, right[1][0], (("beat", (1,)),), (("beat", (0, 0)),)]]
        wrong += [right + (0,), right[:1], right[1:], right[1], ("plans",) + right[1:], ("parts",),
                  ("labels", 1, (0,) * 5), ("labels", 2, (0, 1, 0, 1, 0))]
        for thing in JUNK + spoiled(right) + wrong:
            self.refuses(meeting_holds, FLOOR, x, y, thing)

    def test_wrong_parts(self):
        for floor in SMALL[:7]:
            lots = reference.parts(floor)
            for x, y in itertools.permutations(places(floor), 2):
                wanted = not any(x[0] in lot and y[0] in lot for lot in lots)
                self.assertIs(meeting_holds(floor, x, y, ("parts",)), wanted)
        for thing in JUNK + spoiled(("parts",)) + [("parts", ()), ("parts", 0), "parts", ("part",), ("plan", ())]:
            self.refuses(meeting_holds, BARE, (0, 0), (1, 0), thing)

    def test_all_labellings(self):
        floor = ((2, 2, 2), (((0, 0), (1, 1)),))
        for x, y in itertools.permutations([(0, 0), (1, 0), (1, 1), (2, 0), (2, 1)], 2):
            lots = [[lot for lot in reference.parts(floor) if place[0] in lot][0] for place in (x, y)]
            for m in [1, 2, 3]:
                for thing in itertools.product(range(m), repeat=6):
                    label = dict(zip(places(floor), thing))
                    wanted = lots[0] == lots[1] and reference.is_labelling(floor, lots[0], m, thing)
                    wanted = wanted and label[x] != label[y]
                    self.assertIs(meeting_holds(floor, x, y, ("labels", m, thing)), wanted)

    def test_wrong_labels(self):
        floor, x, y = ((2, 4, 3), (((0, 1), (1, 1)),)), (0, 0), (1, 3)
        right = judge_meeting(floor, x, y)
        self.assertEqual(right[:2], ("labels", 2))
        for at in range(9):
            for label in [-1, 2, 10 ** 99, 1 - right[2][at] % 2]:
                thing = right[2][:at] + (label,) + right[2][at + 1:]
                self.assertIs(meeting_holds(floor, x, y, ("labels", 2, thing)), at >= 6 and 0 <= label < 2)
        wrong = [right + (0,), right[:2], right[1:], ("label",) + right[1:], ("labels", right[2], 2)]
        wrong += [("labels", m, right[2]) for m in [0, 1, 3, 4, -2, 10 ** 99]] + [("labels", 1, (0,) * 9)]
        wrong += [("labels", 2, some) for some in [right[2][1:], right[2][:-1], right[2] + (0,), ()]]
        for thing in JUNK + spoiled(right) + wrong:
            self.refuses(meeting_holds, floor, x, y, thing)
        self.assertIs(meeting_holds(FOURS_ONE, (0, 0), (0, 2), ("labels", 4, (0, 1, 2, 3))), True)
        self.assertIs(meeting_holds(FOURS_ONE, (0, 0), (0, 2), ("labels", 2, (0, 1, 0, 1))), False)
        self.assertIs(meeting_holds(FOURS_ONE, (0, 0), (0, 1), ("labels", 2, (0, 1, 0, 1))), True)

    def test_wrong(self):
        self.raises_in_order(meeting_holds, few(FLOOR_SLOT), PLACE_SLOT, OTHER_SLOT, ("thing", None, [], None))
        for call in FUNCTIONS:
            self.raises_in_order(call, few(FLOOR_SLOT), PLACE_SLOT, OTHER_SLOT)
            self.same_place_twice(call)
        self.same_place_twice(meeting_holds, None)
        self.same_place_twice(apart_holds, None)

    def same_place_twice(self, call, *rest):
        for floor in FLOORS:
            for place in [places(floor)[0], places(floor)[-1]]:
                other = (place[0] + 0, place[1] + 0)
                self.raises(BadPlace, other, call, floor, place, other, *rest)


FOURS_ONE = ((4,), ())


class Apart(Pairs):
    def test_document_examples(self):
        self.same([latest_meeting(EVEN, (0, 0), (1, 0)), judge_apart(EVEN, (0, 0), (1, 0))[0]], [1, "ranks"])
        loop = ("loop", (("beat", (0,)),), (("times", 4, (("beat", ()),)),))
        self.same([latest_meeting(EVEN, (0, 0), (1, 2)), apart_holds(EVEN, (0, 0), (1, 2), loop)], [None, True])

    def test_by_name(self):
        self.same(latest_meeting(other=(1, 0), place=(0, 0), floor=EVEN), 1)
        told = judge_apart(other=(1, 0), place=(0, 0), floor=EVEN)
        self.assertIs(apart_holds(thing=told, other=(1, 0), place=(0, 0), floor=EVEN), True)

    def test_loops_by_their_words(self):
        kept = 0
        beats = [("beat", ()), ("beat", (0,))]
        for floor in [FLOOR, EVEN, INNER]:
            for x, y in list(itertools.permutations(places(floor), 2))[::3]:
                for plan in itertools.product(beats, repeat=2):
                    for again in [some for many in range(1, 5) for some in itertools.product(beats, repeat=many)]:
                        calls, more = reference.rolled(plan), reference.rolled(again)
                        wanted = meets(floor, x, y, calls + more * 40) == []
                        self.assertIs(apart_holds(floor, x, y, ("loop", plan, again)), wanted)
                        kept += wanted
        self.assertGreater(kept, 30)

    def test_nested_loops(self):
        floor, x, y = EVEN, (0, 0), (1, 2)
        idle = ("beat", ())
        for plan in [(), (("times", 3, (("beat", (0,)), idle)), idle),
                     (("times", 2, (("times", 2, (idle,)), CHANGE[0])),)]:
            for again in [(("times", 3, (("times", 2, (idle, CHANGE[0])), idle)),), (("times", 4, (idle,)),),
                          (("times", 1, (("times", 0, CHANGE), ("times", 2, (idle, idle)))),)]:
                calls, more = reference.rolled(plan), reference.rolled(again)
                wanted = meets(floor, x, y, calls + more * 60) == []
                self.assertIs(apart_holds(floor, x, y, ("loop", plan, again)), wanted)

    def test_very_great_loops(self):
        x, y, far = (0, 0), (1, 2), 10 ** 30
        idle = (("beat", ()),)
        for plan, again, wanted in [((("beat", (0,)), ("times", far, idle)), (("times", 4, idle),), True),
                                    ((("beat", (0,)), ("times", far, idle)), idle, True),
                                    ((("beat", (0,)), ("times", far, CHANGE)), idle, False),
                                    ((("times", far, idle),), idle, False), ((("times", far, ()),), idle, False),
                                    (CHANGE, (("times", far, (("times", far, (("times", far, idle),)),)),), True),
                                    (CHANGE, (("times", far, CHANGE), ("times", far, idle)), False),
                                    (CHANGE, (("times", far, ()),), False), (CHANGE, (("times", 0, idle),), False)]:
            self.assertIs(apart_holds(EVEN, x, y, ("loop", plan, again)), wanted)
        # From a ring of one place to the other ring: whether this is called ahead of the fifth beat, or too late.
        floor, x, y = ((1, 10), (((0, 0), (1, 9)),)), (0, 0), (1, 4)
        self.assertEqual(meets(floor, x, y, [()] * 9), [5])
        for k in range(12):
            plan = (("times", k, idle), ("beat", (0,)))
            wanted = meets(floor, x, y, reference.rolled(plan) + [()] * 30) == []
            self.assertIs(apart_holds(floor, x, y, ("loop", plan, idle)), wanted)
            self.assertIs(wanted, k < 4)

    def test_a_meeting_behind_very_many_rounds(self):
        idle = (("beat", ()),)
        for rings in [(5, 7), (6, 7), (5, 9), (1, 13)]:
            floor = (rings, (((0, 0), (1, 0)),))
            x, y = (0, 1 % rings[0]), (1, 1)
            self.assertEqual(meets(floor, x, y, [()] * (rings[0] * rings[1] - 1)), [rings[0] * rings[1] - 1])
            self.refuses(apart_holds, floor, x, y, ("loop", (), idle))
            self.refuses(apart_holds, floor, x, y, ("loop", (), (("times", 2, idle),)))

    def test_how_often_a_plan_may_be_done(self):
        # Of two rings of unlike lengths a beat without calls is done until they meet.
        floor, idle = ((4, 5), (((0, 0), (1, 0)),)), (("beat", ()),)
        for x, y in itertools.product([(0, i) for i in range(4)], [(1, j) for j in range(5)]):
            met = meets(floor, x, y, [()] * 20)[0]
            # Exchanged there they would be met already; so a loop can be only one that keeps them from it.
            for k in range(1, 22):
                tail = (("times", k, idle), ("beat", (0,)))
                calls = reference.rolled(tail)
                wanted = meets(floor, x, y, calls * 200) == []
                self.assertIs(apart_holds(floor, x, y, ("loop", (), tail)), wanted)
            self.assertLess(met, 20)

    def test_wrong_loops(self):
        x, y = (0, 0), (1, 2)
        right = ("loop", (("beat", (0,)),), (("times", 4, (("beat", ()),)),))
        self.assertIs(apart_holds(EVEN, x, y, right), True)
        wrong = [("loop", (), right[2]), ("loop", right[1], ()), ("loop", right[2], right[1]), right[:2], right[1:],
                 right + ((),), ("loops",) + right[1:], ("loop", right[1], right[2][0]),
                 ("loop", right[1][0], right[2]),
                 ("loop", right[1], (("beat", (1,)),)), ("loop", (("beat", (1,)),), right[2]), ("ranks", ()),
                 ("loop", right[1], (("times", 0, (("beat", ()),)),)), ("ranks", (((x, y), 0),))]
        for thing in JUNK + spoiled(right) + wrong:
            self.refuses(apart_holds, EVEN, x, y, thing)
        # Partners have met at the beginning, whatever comes then.
        self.refuses(apart_holds, EVEN, (0, 1), (1, 1), ("loop", (), (("beat", (0,)),)))
        self.refuses(apart_holds, INNER, (0, 1), (0, 0), ("loop", (("beat", ()),), (("beat", ()),)))

    def test_ranks(self):
        floor, x, y = FLOOR, (0, 1), (1, 1)
        self.same(story(floor, x, y), (4, None))
        rows = judge_apart(floor, (0, 1), (1, 2))
        self.assertIs(apart_holds(floor, (0, 1), (1, 2), rows), True)
        self.assertIs(apart_holds(floor, (0, 1), (1, 2), ("ranks", ((((0, 1), (1, 2)), 0),))), True)
        self.assertIs(apart_holds(floor, (0, 1), (1, 2), ("ranks", ((((0, 1), (1, 2)), 10 ** 99),))), True)
        # The two places of a touch need no row; a row of them must be right.
        self.assertIs(apart_holds(floor, (0, 0), (1, 0), ("ranks", ())), True)
        self.assertIs(apart_holds(floor, (0, 0), (1, 0), ("ranks", ((((0, 1), (1, 2)), 5),))), True)
        self.assertIs(apart_holds(floor, (0, 0), (1, 0), ("ranks", ((((0, 0), (1, 0)), 5),))), False)
        self.assertIs(apart_holds(floor, (0, 1), (1, 2), ("ranks", ())), False)

    def ranked(self):
        """A floor, a couple whose dancers meet behind the fifth beat at the latest, and rows of some ranks."""
        floor, x, y = ((6, 6), (((0, 0), (1, 0)),)), (0, 1), (1, 1)
        self.same(latest_meeting(floor, x, y), 5)
        return floor, x, y, judge_apart(floor, x, y)

    def test_wrong_ranks(self):
        floor, x, y, right = self.ranked()
        rows = right[1]
        self.assertIs(apart_holds(floor, x, y, right), True)
        at = [couple for couple, _ in rows].index((x, y))
        others = rows[:at] + rows[at + 1:]
        wrong = [rows[::-1], rows + rows[:1], rows[:1] + rows, others, (), rows[at], rows[at:at + 1],
                 tuple((couple, 0) for couple, _ in rows), tuple((couple, -rank) for couple, rank in rows),
                 tuple(sorted(others + (((x, y), -1),))), tuple(sorted(others + (((x, y), 0),))),
                 tuple(sorted(rows + (((x, y), 99),))), tuple(sorted(rows + (((x, x), 99),))),
                 tuple(sorted(rows + ((((9, 0), x), 99),))), tuple(sorted(rows + (((x, (-1, 0)), 99),))),
                 tuple(couple for couple, _ in rows), tuple((rank, couple) for couple, rank in rows),
                 tuple((couple + (y,), rank) for couple, rank in rows), tuple(row + (0,) for row in rows)]
        wrong = [("ranks", some) for some in wrong] + [right + (0,), right[:1], right[1:], rows, ("rank", rows),
                                                       ("loop", (), (("beat", ()),))]
        for thing in JUNK + spoiled(right)[:1500] + wrong:
            self.refuses(apart_holds, floor, x, y, thing)

    def test_each_rank_by_its_words(self):
        floor, x, y, right = self.ranked()
        accepted = 0
        for at, (couple, _) in enumerate(right[1]):
            for rank in range(9):
                rows = right[1][:at] + ((couple, rank),) + right[1][at + 1:]
                try:
                    self.apart_is_right(floor, x, y, ("ranks", rows))
                    accepted += 1
                except (AssertionError, KeyError):
                    self.refuses(apart_holds, floor, x, y, ("ranks", rows))
            self.left_out(floor, x, y, right[1][:at] + right[1][at + 1:])
        self.assertGreater(accepted, len(right[1]))

    def left_out(self, floor, x, y, rows):
        """Rows without one of them are accepted just if they are right still."""
        ranks = dict(rows)
        falls = all(meet(floor, one) or ranks.get(one, 99) < rank
                    for couple, rank in rows for one in later(floor, couple))
        self.assertIs(apart_holds(floor, x, y, ("ranks", rows)), falls and (x, y) in ranks)

    def test_no_ranks_of_those_who_can_be_kept_apart(self):
        for floor in SMALL:
            for x, y in itertools.permutations(places(floor), 2):
                if latest_meeting(floor, x, y) is None:
                    rows = tuple(((one, other), 9) for one, other in itertools.permutations(places(floor), 2))
                    self.refuses(apart_holds, floor, x, y, ("ranks", rows))
                    self.refuses(apart_holds, floor, x, y, ("ranks", (((x, y), 0),)))

    def test_wrong(self):
        self.raises_in_order(apart_holds, few(FLOOR_SLOT), PLACE_SLOT, OTHER_SLOT, ("thing", None, [], None))
        for thing in WRONG_FLOORS:
            for call in FUNCTIONS:
                self.raises(BadFloor, thing, call, thing, None, None)
            self.raises(BadFloor, thing, apart_holds, thing, None, None, None)
