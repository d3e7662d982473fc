"""Floors and wrong values that several tests use, and the checks of errors."""

import copy
import itertools
import random
import re
import unittest

import reference
from touchrings.errors import BadFloor, BadPlace, BadPlan
from touchrings.plans import is_plan

FLOOR = ((2, 3), (((0, 0), (1, 0)),))
EVEN = ((2, 4), (((0, 1), (1, 1)),))
SIX = ((6,), (((0, 0), (0, 2)),))
THREES = ((3, 6, 3), (((0, 0), (1, 1)), ((1, 3), (2, 0)), ((1, 4), (2, 1))))
FOURS = ((4, 8), (((0, 1), (1, 2)), ((0, 2), (1, 7))))
BARE = ((2, 4), ())
POINT = ((1,), ())
POINTS = ((1, 1, 1), (((0, 0), (2, 0)),))
TWO_PARTS = ((3, 1, 3, 2), (((0, 0), (2, 1)), ((0, 1), (0, 2)), ((1, 0), (3, 1))))
CHAIN = ((2, 2, 2, 5), (((0, 0), (3, 4)), ((1, 1), (2, 0)), ((2, 1), (3, 0))))
FORTY = ((1,) * 40, tuple(((u, 0), (u + 1, 0)) for u in range(0, 40, 2)))
LONG = ((10 ** 30, 3), (((0, 10 ** 30 - 1), (1, 2)),))
FLOORS = [FLOOR, EVEN, SIX, BARE, POINT, POINTS, TWO_PARTS, CHAIN, FORTY]

DEEP = ((((((((((((),),),),),),),),),),),)
JUNK = [None, True, False, 0, 1, -1, 7, 10 ** 99, "", "floor", "floor\nring 2", (), [], {}, {"rings": (2, 3)},
        ((),), [[]], ("floor",), (None, None), (0, 0, 0), ((2, 3),), DEEP, ["a", (1, {"b": [None]})]]


def shown(value):
    """How a value is written, whatever halls are in it."""
    return re.sub(r"<touchrings\.halls\.Hall object at \w+>", "a hall", repr(value))


def stand_ins(value):
    """Values of a wrong kind for an integer, a string or a tuple."""
    if isinstance(value, tuple):
        return [list(value), {}, None, str(value), True]
    if isinstance(value, str):
        return [value + "s", value.upper(), "", None, 0, True, (value,), [value], {value: value}]
    return [bool(value), str(value), None, (value,), [value], {value: value}]


def spoiled(value):
    """All values with one integer, string or tuple of the value, at any depth, put as one of a wrong kind."""
    found = stand_ins(value)
    if isinstance(value, tuple):
        for at, item in enumerate(value):
            found += [value[:at] + (wrong,) + value[at + 1:] for wrong in spoiled(item)]
    return found


def without(values, *right):
    """The values that are none of the right ones."""
    return [value for value in values if repr(value) not in [repr(one) for one in right]]


WRONG_FLOORS = JUNK + spoiled(FLOOR) + spoiled(TWO_PARTS) + [
    ((2, 3),), ((2, 3), (), ()), ((), ()), ((0,), ()), ((2, 0), ()), ((-1,), ()), ((1,) * 41, ()),
    ((2, 3), (((1, 0), (0, 0)),)), ((2, 3), (((0, 0), (0, 0)),)), ((2, 3), (((0, 0), (1, 3)),)),
    ((2, 3), (((0, 0), (2, 0)),)), ((2, 3), (((-1, 0), (1, 0)),)), ((2, 3), (((0, -1), (1, 0)),)),
    ((2, 3), (((0, 0), (1, 0)), ((0, 0), (1, 0)))), ((2, 3), (((0, 0), (1, 0)), ((0, 0), (1, 1)))),
    ((2, 3), (((0, 0), (1, 0)), ((0, 1), (1, 0)))), ((2, 3), (((0, 1), (1, 1)), ((0, 0), (1, 0)))),
    ((2, 3), (((0, 0), (0, 1)), ((0, 1), (1, 0)))), ((2, 3), ((0, 0), (1, 0))), ((2, 3), (((0, 0), (1, 0), (1, 1)),)),
    ((2, 3), (((0, 0),),)), ((2, 3), (((0, 0, 0), (1, 0)),)), ((2, 3), (((0,), (1, 0)),)), (((0, 0), (1, 0)), (2, 3)),
]
WRONG_PLACES = JUNK + spoiled((0, 0)) + spoiled((1, 2)) + [
    (2, 0), (-1, 0), (0, 2), (1, 3), (0, -1), (1, 10 ** 99), (-2, 0), (0,), ((0, 0), (1, 0)),
]
# For FLOOR, which has five places and one touch.
WRONG_ARRANGEMENTS = JUNK + spoiled((0, 1, 2, 3, 4)) + [
    (0, 1, 2, 3), (0, 1, 2, 3, 4, 5), (0, 0, 2, 3, 4), (4, 1, 2, 3, 4), (1, 2, 3, 4, 5), (-1, 0, 1, 2, 3),
    (0, 1, 2, 3, 10 ** 99), (0, 1, 2, 3, "4"), ((0, 1, 2, 3, 4),), (0, 1, (2, 3, 4)), (0, 1, 2, 3, -1), FLOOR,
]
CHANGE = (("beat", (0,)),)
GREAT = (("times", 10 ** 30, CHANGE),)
NESTED = (("beat", (0,)), ("times", 2, (("times", 0, ()), ("beat", ()), ("times", 3, (("beat", (0,)),)))))
WRONG_PLANS = without(JUNK, ()) + spoiled(NESTED) + [
    (("beat",),), (("beat", (0,), 1),), (("beat", 0),), (("beat", (0,), ()),), (("beats", (0,)),), (("Beat", (0,)),),
    (("times", 2),), (("times", (), 2),), (("times", -1, ()),), (("times", 2, (), ()),), (("times", ()),),
    (("times", 2, ("beat", ())),), (("times", 2, (("beat", (1,)),)),), ("beat", (0,)), ("times", 2, ()), ((0,),),
    (("beat", (1,)),), (("beat", (-1,)),), (("beat", (0, 0)),), (("beat", (0, 1)),), (("beat", (10 ** 99,)),),
    (("beat", ("0",)),), (("beat", ((0,),)),), (("beat", ()), ()), (("skip", 0),), (("", ()),), ((None, ()),),
    (("times", 1, (("times", 1, (("times", 1, (("times", 1, (("beat", (1,)),)),)),)),)),), (("touch", (0,)),),
]
FLOOR_SLOT = ("floor", FLOOR, WRONG_FLOORS, BadFloor)
PLACE_SLOT = ("place", (1, 2), WRONG_PLACES, BadPlace)
PLAN_SLOT = ("plan", NESTED, WRONG_PLANS, BadPlan)
NO_INTEGERS = [None, True, False, "", "1", (), (1,), [1], {}, {1: 1}, DEEP]


def few(slot):
    """The slot with some of its wrong values."""
    name, right, wrongs, error = slot
    return name, right, wrongs[::11] + [wrongs[-1]], error


def some_plans(floor, many, depth=3):
    """Plans of a floor, made by chance, the same ones each time."""
    chance = random.Random(many)
    numbers = range(len(floor[1]))

    def steps(depth):
        found = []
        for _ in range(chance.randrange(4)):
            if depth == 0 or chance.random() < 0.6:
                found.append(("beat", tuple(sorted(chance.sample(numbers, chance.randint(0, len(numbers)))))))
            else:
                found.append(("times", chance.randrange(4), steps(depth - 1)))
        return tuple(found)
    return [(), (("beat", ()),), (("times", 0, (("beat", ()),)),)] + [steps(depth) for _ in range(many)]


def some_floors(many):
    """Floors made by chance, the same ones each time."""
    chance = random.Random(many)
    found = []
    for _ in range(many):
        rings = tuple(chance.choice([1, 2, 2, 3, 4, 4, 6]) for _ in range(chance.randint(1, 3)))
        spots = [(u, i) for u, length in enumerate(rings) for i in range(length)]
        chance.shuffle(spots)
        pairs = zip(spots[::2], spots[1::2])
        touches = [tuple(sorted(pair)) for pair in pairs][:chance.randint(0, 4)]
        found.append((rings, tuple(sorted(touches))))
    return found


def size_of(plan):
    """The pair of the depth of a plan and of its steps, with all plans in it."""
    sizes = [size_of(step[2]) for step in plan if step[0] == "times"]
    return max([1 + depth for depth, _ in sizes], default=0), len(plan) + sum(steps for _, steps in sizes)


def mixed(floor, seed):
    """An arrangement of a floor that falls out by chance."""
    return tuple(random.Random(seed).sample(range(sum(floor[0])), sum(floor[0])))


def led_by_chance(floor, one, seed):
    """An arrangement, or a guise, to which some calls lead another one."""
    chance = random.Random(seed)
    numbers = range(len(floor[1]))
    for _ in range(40):
        one = reference.beat(floor, one, sorted(chance.sample(numbers, chance.randint(0, len(numbers)))))
    return one


class Case(unittest.TestCase):
    """A test that tells True from 1, and an error of a class from one of another class."""

    def same(self, got, wanted):
        """Equal also as they are written: no bool for an integer, no list for a tuple."""
        self.assertEqual(got, wanted)
        self.assertEqual(repr(got), repr(wanted))

    def plan_is_small(self, floor, plan):
        """A plan that is returned is one, and keeps within what the document tells."""
        self.assertIs(is_plan(floor, plan), True)
        depth, steps = size_of(plan)
        self.assertTrue(depth <= 4 and steps <= 4000)

    def raised(self, call, /, *args, **named):
        """The error that a call raises; nothing that is passed is changed by it."""
        before = copy.deepcopy((args, named))
        try:
            got = call(*args, **named)
        except Exception as error:
            self.assertEqual((args, named), before)
            self.assertEqual(shown((args, named)), shown(before))
            return error
        return self.fail(f"{call.__name__}{args}{named} returned {got!r}")

    def raises(self, wanted, thing, call, /, *args, **named):
        """The error is of just that class, and has just that value."""
        error = self.raised(call, *args, **named)
        self.assertIs(type(error), wanted, (call.__name__, args, named, error))
        self.assertIs(error.thing, thing)

    def refuses(self, call, /, *args, **named):
        """The call gives just False, and changes nothing that is passed."""
        before = copy.deepcopy((args, named))
        self.assertIs(call(*args, **named), False, (call.__name__, args, named))
        self.assertEqual((args, named), before)
        self.assertEqual(shown((args, named)), shown(before))

    def raises_in_order(self, call, *slots):
        """Wrong arguments are told of in the order of the slots (name, right value, wrong values, error).

        A slot that takes any value has no wrong ones.
        """
        names = [name for name, _, _, _ in slots]
        right = [good for _, good, _, _ in slots]
        wrong_ones = [wrongs[-1] if wrongs else good for _, good, wrongs, _ in slots]
        for at, (_, _, wrongs, wanted) in enumerate(slots):
            for wrong, rest in itertools.product(wrongs, [right, wrong_ones]):
                args = right[:at] + [wrong] + rest[at + 1:]
                self.raises(wanted, wrong, call, *args)
                self.raises(wanted, wrong, call, **dict(zip(names, args)))
