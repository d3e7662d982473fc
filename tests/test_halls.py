"""Halls [13.1], changes [13.3], deals [13.4]."""

import copy
import itertools
import random

import reference
from samples import (BARE, CHAIN, Case, EVEN, FLOOR, FLOOR_SLOT, JUNK, POINT, POINTS, SIX, TWO_PARTS, WRONG_PLACES,
                     WRONG_PLANS, shown, spoiled, without)
from touchrings.errors import (BadChange, BadNumber, BadPlace, BadPlan, BadPromise, BadTouch, Broken, FloorError,
                               NothingToRedo, NothingToUndo, TooMany)
from touchrings.halls import Hall, read_hall
from touchrings.plans import home

IDLE = ("beat", ())
DEAL = (("promise", ("apart", 0, 1)), ("beat", (0,)))
# For FLOOR, which has one touch.
WRONG_CALLS = without(JUNK, ()) + spoiled((0,)) + [(1,), (-1,), (0, 0), (0, 1), ((0,),), (10 ** 99,), ("0",), 0]
WRONG_CHANGES = JUNK + [
    ("beat",), ("beat", (), ()), ("plan",), ("plan", (), ()), ("open",), ("open", (0, 1)),
    ("open", (0, 1), (1, 1), (1, 2)), ("bar",), ("bar", 0, 0), ("lengthen",), ("lengthen", 0, 1), ("promise",),
    ("promise", ("joined",), 1), ("drop",), ("drop", ("joined",), 1), ("beats", ()), ("Beat", ()),
    ["beat", ()], [], "beat", (("beat", ()),), (("beat",), ()),
    ("skip", 0), ("times", 2, ()), ("shorten", 0), ("joined",), ("undo",), (None, ()), ("", ()), {"beat": ()},
    ("open", ()),
]


def text_of_state(state):
    """The text of a state (floor, arrangement, promises) [13.5]."""
    (rings, touches), arrangement, promises = state
    lines = ["floor"] + [f"ring {length}" for length in rings]
    lines += ["touch " + " ".join(map(str, x + y)) for x, y in touches]
    lines.append("dancers " + " ".join(map(str, arrangement)))
    for word, *rest in promises:
        numbers = rest[0] if word == "callable" else rest
        lines.append(" ".join([word, *map(str, numbers)]))
    return "\n".join(lines)


def bare_hall(state):
    """A hall with the floor and the arrangement of a state, without promises."""
    return read_hall(text_of_state(state[:2] + ((),)))


def after_change(state, change):
    """The state behind a right change [13.3], or the class of the error of a wrong one; promises are not looked at."""
    (rings, touches), arrangement, promises = state
    floor, word, *rest = (rings, touches), *change
    spots = reference.places(floor)
    taken = [place for touch in touches for place in touch]
    if word == "beat":
        call = rest[0]
        if list(call) != sorted(set(call)) or not all(0 <= number < len(touches) for number in call):
            return BadPlan
        return floor, reference.beat(floor, arrangement, call), promises
    if word == "plan":
        return floor, reference.after(floor, arrangement, rest[0]), promises
    if word == "open":
        if not all(place in spots for place in rest):
            return BadPlace
        if rest[0] == rest[1] or rest[0] in taken or rest[1] in taken:
            return BadTouch
        return (rings, tuple(sorted(touches + (tuple(sorted(rest)),)))), arrangement, promises
    if word == "bar":
        if not 0 <= rest[0] < len(touches):
            return BadNumber
        return (rings, touches[:rest[0]] + touches[rest[0] + 1:]), arrangement, promises
    if word == "lengthen":
        u = rest[0]
        if not 0 <= u < len(rings):
            return BadNumber
        if len(spots) >= 40:
            return TooMany
        standing = dict(zip(spots, arrangement))
        standing[u, rings[u]] = len(spots)
        longer = rings[:u] + (rings[u] + 1,) + rings[u + 1:], touches
        return longer, tuple(standing[place] for place in reference.places(longer)), promises
    if word == "promise":
        return BadPromise if rest[0] in promises else (floor, arrangement, promises + (rest[0],))
    left = tuple(one for one in promises if one != rest[0])
    return (floor, arrangement, left) if left != promises else BadPromise


def some_change(chance, state):
    """A change that falls out by chance; most of them are right ones."""
    (rings, touches), arrangement, promises = state
    word = chance.choice(["beat", "beat", "plan", "open", "bar", "lengthen", "promise", "drop"])
    number = chance.randrange(-1, len(touches) + 2) if chance.random() < 0.3 else 0
    call = tuple(sorted(n for n in range(len(touches)) if chance.random() < 0.5))
    spots = reference.places((rings, touches))
    if word == "beat":
        return word, call if chance.random() < 0.9 else (number,)
    if word == "plan":
        return word, (("times", chance.randrange(4), (("beat", call), IDLE)), ("beat", call))
    if word == "open":
        return (word, *[chance.choice(spots + [(0, 9)] * (chance.random() < 0.1)) for _ in range(2)])
    if word == "bar":
        return word, number
    if word == "lengthen":
        return word, chance.randrange(len(rings)) if len(spots) < 12 else 9
    if word == "drop" and promises:
        return word, chance.choice(promises)
    d, e = sorted(chance.sample(range(len(spots) + 1), 2))
    goal = tuple(chance.sample(range(len(spots)), len(spots)))
    return word, chance.choice([("joined",), ("free",), ("number", chance.choice([1, 2, 4, 6, 12])), ("apart", d, e),
                                ("callable", chance.choice([arrangement, arrangement, goal, tuple(range(d))]))])


class Halls(Case):
    def stands(self, hall, state, deeds):
        """All that a hall tells of itself."""
        floor, arrangement, promises = state
        self.same([hall.floor(), hall.arrangement(), hall.promises(), hall.deeds()],
                  [floor, arrangement, promises, deeds])
        self.same(str(hall), text_of_state(state))

    def fails(self, wanted, values, hall, call, /, *args, **named):
        """A call raises an error of just this class and with just these values as attributes, and changes nothing."""
        text, deeds, twin = str(hall), hall.deeds(), hall.copied()
        error = self.raised(call, *args, **named)
        self.assertIs(type(error), wanted, (args, named, error))
        self.assertEqual(shown(vars(error)), shown(values))
        self.same([str(hall), hall.deeds()], [text, deeds])
        self.assertEqual(redone(hall.copied()), redone(twin))
        return error

    def refuses_deal(self, hall, changes, wanted, values):
        """A deal and a trial of it."""
        self.fails(wanted, values, hall, hall.deal, changes)
        self.fails(wanted, values, hall, hall.deal, changes=changes)
        self.assertIs(hall.would(changes), False)
        self.assertIs(hall.would(changes=changes), False)


def redone(hall):
    """The texts of a hall, all of whose deeds that can be redone are redone, and then all are undone."""
    found = [str(hall)]
    for call, wanted in [(hall.redo, NothingToRedo), (hall.undo, NothingToUndo)]:
        try:
            while True:
                call()
                found.append(str(hall))
        except wanted:
            pass
    return found


class New(Halls):
    def test_document_examples(self):
        hall = Hall(EVEN)
        self.assertIsNone(hall.deal(DEAL))
        self.same([hall.arrangement(), hall.promises(), hall.deeds()], [(1, 2, 5, 0, 3, 4), (("apart", 0, 1),), 1])
        self.same(str(hall), "floor\nring 2\nring 4\ntouch 0 1 1 1\ndancers 1 2 5 0 3 4\napart 0 1")
        self.same([hall.judged(("apart", 0, 1)), hall.judged(("free",))[0]], [("holds",), "labels"])
        self.same([hall.would((("open", (0, 0), (1, 0)),)), hall.would((("open", (0, 0), (1, 3)),))], [True, False])
        self.assertIs(hall.against_holds(("callable", (0, 1, 2)), ("length",)), True)
        self.assertIs(hall == read_hall(str(hall)), True)
        self.fails(BadNumber, {"thing": 1}, hall, hall.change, ("bar", 1))

    def test_a_new_hall(self):
        for floor in [FLOOR, EVEN, SIX, BARE, POINT, POINTS, TWO_PARTS, CHAIN]:
            self.stands(Hall(floor), (floor, home(floor), ()), 0)
            self.assertEqual(Hall(floor=floor), Hall(floor))

    def test_wrong_floors(self):
        self.raises_in_order(Hall, FLOOR_SLOT)

    def test_methods_are_its_own(self):
        for name in ["floor", "arrangement", "promises", "deeds", "judged", "against_holds", "change", "deal", "would",
                     "undo", "redo", "copied", "__str__", "__eq__", "__init__"]:
            self.assertIn(name, vars(Hall))
        self.assertEqual(Hall.__bases__, (object,))


class Changes(Halls):
    def done(self, floor, *changes):
        """A hall behind some changes, each a deed, which must be right ones."""
        hall, state = Hall(floor), (floor, home(floor), ())
        for at, change in enumerate(changes):
            state = after_change(state, change)
            self.assertIsNone(hall.change(change))
            self.stands(hall, state, at + 1)
        return hall

    def test_each_kind(self):
        hall = self.done(BARE, ("open", (1, 1), (0, 1)), ("beat", (0,)), ("beat", ()), ("lengthen", 0),
                         ("plan", (("times", 7, (("beat", (0,)),)),)), ("promise", ("joined",)), ("promise", ("free",)),
                         ("lengthen", 1), ("open", (1, 4), (0, 2)), ("drop", ("joined",)), ("drop", ("free",)),
                         ("bar", 1), ("bar", 0), ("lengthen", 0))
        self.same(hall.floor(), ((4, 5), ()))
        self.assertEqual(sorted(hall.arrangement()), list(range(9)))
        self.assertIsNone(Hall(FLOOR).change(change=("beat", (0,))))

    def test_lengthen_by_its_words(self):
        hall = Hall(((2, 3, 1), (((0, 1), (2, 0)),)))
        hall.change(("lengthen", 0))
        self.stands(hall, (((3, 3, 1), (((0, 1), (2, 0)),)), (0, 1, 6, 2, 3, 4, 5), ()), 1)
        hall.change(("lengthen", 2))
        self.same(hall.arrangement(), (0, 1, 6, 2, 3, 4, 5, 7))

    def test_lengthen_forty_places(self):
        for rings in [(39,), (1,) * 39, (20, 19)]:
            hall = Hall((rings, ()))
            hall.change(("lengthen", 0))
            self.same([sum(hall.floor()[0]), hall.arrangement().count(39), hall.arrangement()[rings[0]]], [40, 1, 39])
            self.fails(TooMany, {"most": 40}, hall, hall.change, ("lengthen", 0))
            self.fails(TooMany, {"most": 40}, hall, hall.change, ("lengthen", len(rings) - 1))
            # That there is no such ring is told first.
            self.fails(BadNumber, {"thing": len(rings)}, hall, hall.change, ("lengthen", len(rings)))
            self.refuses_deal(hall, (IDLE, ("lengthen", 0)), BadChange, {"at": 1})
        self.fails(TooMany, {"most": 40}, Hall((POINT[0] * 40, ())), Hall((POINT[0] * 40, ())).change, ("lengthen", 3))

    def test_great_plans(self):
        hall = Hall(FLOOR)
        hall.change(("plan", (("times", 10 ** 30 + 1, (("beat", (0,)),)),)))
        self.same(hall.arrangement(), (4, 0, 1, 2, 3))

    def test_values_at_fault(self):
        hall = Hall(FLOOR)
        for word, error, things in [("beat", BadPlan, WRONG_CALLS), ("plan", BadPlan, WRONG_PLANS),
                                    ("bar", BadNumber, without(JUNK, 0) + [1, -1, "0"]),
                                    ("lengthen", BadNumber, without(JUNK, 0, 1) + [2, -1, "0"])]:
            for thing in things:
                change = (word, thing)
                self.raises(error, thing, hall.change, change)
                self.assertIs(hall.would((change,)), False)
        for place in WRONG_PLACES:
            self.raises(BadPlace, place, hall.change, ("open", place, (0, 1)))
            self.raises(BadPlace, place, hall.change, ("open", (0, 1), place))
            self.raises(BadPlace, place, hall.change, ("open", place, None))
        self.same(str(hall), str(Hall(FLOOR)))

    def test_touches_that_cannot_be(self):
        hall = Hall(FLOOR)
        for x, y in [((0, 0), (1, 1)), ((1, 1), (0, 0)), ((1, 1), (1, 1)), ((0, 1), (1, 0)), ((0, 0), (1, 0))]:
            self.fails(BadTouch, {"thing": (x, y)}, hall, hall.change, ("open", x, y))

    def test_wrong_changes(self):
        hall = Hall(FLOOR)
        for thing in WRONG_CHANGES + [hall, Hall(EVEN)]:
            self.fails(BadChange, {"at": 0}, hall, hall.change, thing)
            self.refuses_deal(hall, (thing,), BadChange, {"at": 0})
            self.refuses_deal(hall, (IDLE, IDLE, thing, None), BadChange, {"at": 2})

    def test_promises_made_twice_and_dropped(self):
        hall = Hall(EVEN)
        for promise in [("joined",), ("number", 2), ("number", 1000), ("apart", 0, 1),
                        ("callable", (2, 1, 0, 3, 4, 5))]:
            self.fails(BadPromise, {"thing": promise}, hall, hall.change, ("drop", promise))
            hall.change(("promise", promise))
            self.fails(BadPromise, {"thing": promise}, hall, hall.change, ("promise", promise))
        self.same(hall.promises(), (("joined",), ("number", 2), ("number", 1000), ("apart", 0, 1),
                                    ("callable", (2, 1, 0, 3, 4, 5))))
        hall.change(("drop", ("number", 1000)))
        hall.change(("promise", ("number", 1000)))
        self.same(hall.promises()[-1], ("number", 1000))
        hall = Hall(FLOOR)
        hall.change(("promise", ("number", 1)))
        # A bool is equal to an integer, but no promise.
        for thing in [("number", True), ("number", 0), ("number", 1001)]:
            for word in ["promise", "drop"]:
                self.raises(BadPromise, thing, hall.change, (word, thing))
        self.same(hall.promises(), (("number", 1),))


class Deals(Halls):
    def broken(self, hall, changes, promise, state):
        """A deal is refused as it breaks a promise; the certificate is one against it in the state behind it."""
        text, deeds = str(hall), hall.deeds()
        error = self.raised(hall.deal, changes)
        self.assertIs(type(error), Broken)
        self.assertEqual(sorted(vars(error)), ["certificate", "promise"])
        self.same(error.promise, promise)
        self.assertIs(bare_hall(state).against_holds(promise, error.certificate), True)
        self.same([str(hall), hall.deeds(), hall.would(changes)], [text, deeds, False])

    def test_against_a_model(self):
        counts = {"done": 0, "wrong": 0, "broken": 0, "undone": 0, "redone": 0, "copied": 0}
        for seed in range(150):
            chance = random.Random(seed)
            floor = chance.choice([FLOOR, EVEN, BARE, POINTS, SIX, ((2, 2), ()), ((3, 1, 2), (((0, 0), (1, 0)),))])
            self.danced(chance, Hall(floor), (floor, home(floor), ()), counts)
        self.assertGreater(min(counts.values()), 50, counts)

    def danced(self, chance, hall, state, counts):
        """Deals, undone and done again, of a hall and of a model of it."""
        past, undone = [], []
        for _ in range(25):
            what = chance.random()
            if what < 0.15 and past:
                self.assertIsNone(hall.undo())
                undone.append(state)
                state = past.pop()
                counts["undone"] += 1
            elif what < 0.25 and undone:
                self.assertIsNone(hall.redo())
                past.append(state)
                state = undone.pop()
                counts["redone"] += 1
            elif what < 0.3:
                twin, hall = hall, hall.copied()
                self.assertEqual(twin, hall)
                # What is done to the other one is not seen here.
                if state[2] == ():
                    twin.change(("lengthen", 0))
                counts["copied"] += 1
            else:
                word, later = self.deal(chance, hall, state)
                counts[word] += 1
                if word == "done":
                    past, undone, state = past + [state], [], later
            self.stands(hall, state, len(past))
            if not undone:
                self.assertIs(type(self.raised(hall.redo)), NothingToRedo)

    def deal(self, chance, hall, state):
        """A deal that falls out by chance, done or refused as the model tells."""
        later, changes, wrong = state, [], None
        for at in range(chance.randrange(4)):
            changes.append(some_change(chance, later))
            end = after_change(later, changes[-1])
            if isinstance(end, type):
                wrong = (at, end)
                break
            later = end
        changes = tuple(changes) + (("beat", None),) * (wrong is not None and chance.random() < 0.3)
        if wrong is not None:
            self.refuses_deal(hall, changes, BadChange, {"at": wrong[0]})
            if wrong[0] == 0:
                self.assertIs(type(self.raised(hall.change, changes[0])), wrong[1])
            return "wrong", None
        bare = bare_hall(later)
        failing = [promise for promise in later[2] if bare.judged(promise) != ("holds",)]
        if failing:
            self.broken(hall, changes, failing[0], later)
            return "broken", None
        self.assertIs(hall.would(changes), True, (str(hall), changes))
        self.stands(hall, state, hall.deeds())
        if len(changes) == 1 and chance.random() < 0.5:
            self.assertIsNone(hall.change(changes[0]))
        else:
            self.assertIsNone(hall.deal(changes))
        return "done", later

    def test_no_tuples(self):
        hall = Hall(FLOOR)
        for thing in without(JUNK, (), *[one for one in JUNK if isinstance(one, tuple)]) + [hall, [IDLE], IDLE[0]]:
            self.refuses_deal(hall, thing, BadChange, {"at": -1})

    def test_a_deal_without_changes_is_a_deed(self):
        hall = Hall(FLOOR)
        for deeds in range(1, 4):
            self.assertIs(hall.would(()), True)
            hall.deal(())
            self.stands(hall, (FLOOR, home(FLOOR), ()), deeds)
        hall.undo()
        self.same(hall.deeds(), 2)
        hall.change(("plan", ()))
        self.same(hall.deeds(), 3)
        self.assertIs(type(self.raised(hall.redo)), NothingToRedo)

    def test_promises_are_looked_at_behind_the_last_change(self):
        hall = Hall(EVEN)
        hall.change(("promise", ("joined",)))
        self.broken(hall, (("bar", 0),), ("joined",), (BARE, home(BARE), ()))
        self.broken(hall, (IDLE, ("bar", 0), ("open", (0, 0), (0, 1))), ("joined",),
                    (((2, 4), (((0, 0), (0, 1)),)), (1, 0, 5, 2, 3, 4), ()))
        hall.deal((("bar", 0), ("open", (0, 0), (1, 3))))
        self.same(hall.floor(), ((2, 4), (((0, 0), (1, 3)),)))
        hall.deal((("bar", 0), ("drop", ("joined",))))
        self.same([hall.floor(), hall.promises()], [BARE, ()])
        # One that holds at the end may be made when it does not hold yet.
        hall.deal((("promise", ("free",)), ("open", (0, 0), (1, 0)), ("lengthen", 1)))
        self.same(hall.promises(), (("free",),))
        self.same(hall.floor(), ((2, 5), (((0, 0), (1, 0)),)))
        # One that does not may be made and dropped.
        hall.deal((("promise", ("callable", ())), ("drop", ("callable", ()))))
        self.same(hall.promises(), (("free",),))

    def test_the_first_promise_that_does_not_hold(self):
        hall = Hall(FLOOR)
        hall.deal((("promise", ("number", 7)), ("promise", ("free",)), ("promise", ("joined",))))
        state = (((2, 3), ()), home(FLOOR), ())
        self.broken(hall, (("bar", 0),), ("number", 7), state)
        self.broken(hall, (("bar", 0), ("drop", ("number", 7))), ("free",), state)
        self.broken(hall, (("drop", ("free",)), ("bar", 0), ("drop", ("number", 7)), ("promise", ("free",))),
                    ("joined",), state)
        self.broken(hall, (("promise", ("callable", ())),), ("callable", ()), (FLOOR, home(FLOOR), ()))
        self.broken(hall, (("promise", ("apart", 0, 5)),), ("apart", 0, 5), (FLOOR, home(FLOOR), ()))

    def test_a_single_change_that_breaks_a_promise(self):
        hall = Hall(EVEN)
        hall.change(("promise", ("number", 2)))
        error = self.fails_with_broken(hall, ("bar", 0))
        self.same([error.promise, error.certificate], [("number", 2), ("part", 1, 4)])
        error = self.fails_with_broken(hall, ("promise", ("free",)))
        self.same(error.promise, ("free",))
        error = self.fails_with_broken(hall, ("promise", ("callable", (0, 1, 2))))
        self.same([error.promise, error.certificate], [("callable", (0, 1, 2)), ("length",)])
        error = self.fails_with_broken(hall, ("promise", ("apart", 3, 99)))
        self.same([error.promise, error.certificate], [("apart", 3, 99), ("gone",)])

    def fails_with_broken(self, hall, change):
        text = str(hall)
        error = self.raised(hall.change, change)
        self.assertIs(type(error), Broken)
        self.assertEqual(sorted(vars(error)), ["certificate", "promise"])
        self.same([str(hall), hall.would((change,))], [text, False])
        return error

    def test_promised_arrangements_bar_longer_rings(self):
        hall = Hall(FLOOR)
        hall.change(("promise", ("callable", (4, 3, 2, 1, 0))))
        for _ in range(4):
            hall.change(("beat", (0,)))
        error = self.fails_with_broken(hall, ("lengthen", 0))
        self.same(error.certificate, ("length",))

    def test_errors_of_changes_come_before_promises(self):
        hall = Hall(EVEN)
        hall.change(("promise", ("joined",)))
        self.refuses_deal(hall, (("bar", 0), ("bar", 0)), BadChange, {"at": 1})
        self.refuses_deal(hall, (("promise", ("free",)), ("promise", ("free",))), BadChange, {"at": 1})

    def test_promises_that_partners_never_keep(self):
        # Dancers of one class can meet, wherever they stand now.
        for d, e in itertools.combinations(range(6), 2):
            hall = Hall(EVEN)
            self.assertIs(hall.would((("promise", ("apart", d, e)),)), d % 2 != e % 2)


class Deeds(Halls):
    def test_the_ends(self):
        hall = Hall(FLOOR)
        for call, wanted in [(hall.undo, NothingToUndo), (hall.redo, NothingToRedo)]:
            self.fails(wanted, {}, hall, call)
        hall.change(IDLE)
        self.fails(NothingToRedo, {}, hall, hall.redo)
        hall.undo()
        self.fails(NothingToUndo, {}, hall, hall.undo)
        hall.redo()
        self.fails(NothingToRedo, {}, hall, hall.redo)
        self.assertTrue(issubclass(NothingToUndo, FloorError) and issubclass(NothingToRedo, FloorError))

    def test_back_and_forth(self):
        hall = Hall(EVEN)
        changes = [("beat", (0,)), ("promise", ("joined",)), ("lengthen", 1), ("open", (1, 4), (0, 0)), IDLE,
                   ("drop", ("joined",)), ("bar", 1)]
        texts = [str(hall)]
        for change in changes:
            hall.change(change)
            texts.append(str(hall))
        for at in range(len(changes), 0, -1):
            self.same([str(hall), hall.deeds()], [texts[at], at])
            self.assertIsNone(hall.undo())
        for at in range(len(changes)):
            self.same([str(hall), hall.deeds()], [texts[at], at])
            self.assertIsNone(hall.redo())
        self.same(str(hall), texts[-1])

    def test_a_new_deed_ends_what_can_be_redone(self):
        hall = Hall(FLOOR)
        hall.change(("beat", (0,)))
        hall.undo()
        # A refused one does not.
        self.refuses_deal(hall, (("bar", 1),), BadChange, {"at": 0})
        self.fails(BadNumber, {"thing": 1}, hall, hall.change, ("bar", 1))
        self.assertIs(type(self.raised(hall.change, ("promise", ("apart", 0, 1)))), Broken)
        self.assertIs(hall.would((IDLE,)), True)
        hall.redo()
        self.same(hall.arrangement(), (4, 0, 1, 2, 3))
        hall.undo()
        hall.deal(())
        self.fails(NothingToRedo, {}, hall, hall.redo)

    def test_a_deal_is_taken_back_whole(self):
        hall = Hall(EVEN)
        hall.deal(DEAL + (("lengthen", 0), ("drop", ("apart", 0, 1))))
        hall.undo()
        self.assertEqual(hall, Hall(EVEN))
        hall.redo()
        self.same(hall.floor()[0], (3, 4))

    def test_copies_go_their_own_way(self):
        hall = Hall(EVEN)
        hall.deal(DEAL)
        hall.change(IDLE)
        hall.undo()
        twin = hall.copied()
        self.assertIsNot(twin, hall)
        self.assertEqual(redone(hall.copied()), redone(twin.copied()))
        self.same([twin.deeds(), str(twin)], [1, str(hall)])
        twin.redo()
        twin.change(("drop", ("apart", 0, 1)))
        self.same([hall.deeds(), hall.promises()], [1, (("apart", 0, 1),)])
        hall.redo()
        hall.undo()
        hall.undo()
        self.assertEqual(hall, Hall(EVEN))
        self.same(twin.deeds(), 3)
        twin.undo()
        twin.undo()
        self.same([twin.deeds(), hall.deeds()], [1, 0])


class Equality(Halls):
    def test_by_other_deals(self):
        one, other = Hall(FLOOR), Hall(((2, 3), ()))
        self.assertIs(one == other, False)
        self.assertIs(one != other, True)
        other.change(("open", (1, 0), (0, 0)))
        self.assertIs(one == other, True)
        self.assertIs(one != other, False)
        for _ in range(5):
            other.change(("beat", (0,)))
        self.assertEqual(one, other)
        self.same([one.deeds(), other.deeds()], [0, 6])
        one.deal((("promise", ("joined",)), ("promise", ("free",))))
        other.deal((("promise", ("free",)), ("promise", ("joined",))))
        self.assertIs(one == other, False)
        other.deal((("drop", ("free",)), ("promise", ("free",))))
        self.assertIs(one == other, True)

    def test_with_other_values(self):
        hall = Hall(FLOOR)
        for thing in JUNK + [str(hall), FLOOR, (FLOOR, home(FLOOR), ()), [hall], (hall,), Hall]:
            self.assertIs(hall == thing, False)
            self.assertIs(thing == hall, False)
            self.assertIs(hall != thing, True)
        self.assertIs(hall == copy.deepcopy(hall), True)

    def test_halls_in_the_place_of_other_values(self):
        hall, text = Hall(FLOOR), str(Hall(FLOOR))
        for promise in [("joined",), ("number", 1), ("callable", (0,)), ("apart", 0, 1)]:
            for thing in [hall, (hall,), ("parts", hall), ("part", hall, 2), ("plan", (hall,)), (hall, (0,))]:
                self.assertIs(hall.against_holds(promise, thing), False)
        self.same(str(hall), text)
