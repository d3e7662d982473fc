"""Promises about a floor and the arrangement that stands, and what can be said against them."""

from touchrings.called import called_holds, called_rest, judge_called
from touchrings.couples import meeting_plan
from touchrings.floors import parts, places
from touchrings.labels import keeps_all, labels, part_numbers
from touchrings.pairs import meet_behind
from touchrings.plans import is_plan
from touchrings.values import are_below, is_below, is_from, is_order, is_tagged, is_whole

MOST_NUMBER = 1000


def is_promise(thing):
    """Whether any value is a promise, of whatever floor."""
    if is_tagged(thing, "joined", 1) or is_tagged(thing, "free", 1):
        return True
    if is_tagged(thing, "number", 2):
        return is_from(thing[1], 1) and thing[1] <= MOST_NUMBER
    if is_tagged(thing, "callable", 2):
        return isinstance(thing[1], tuple) and is_order(thing[1], len(thing[1]))
    return is_tagged(thing, "apart", 3) and is_from(thing[2], 1) and is_below(thing[1], thing[2])


def against(floor, arrangement, promise):
    """A certificate against a promise, None if it holds."""
    word = promise[0]
    if word == "joined":
        return _unjoined(floor)
    if word == "free":
        return _unfree(floor)
    if word == "number":
        return _undivided(floor, promise[1])
    if word == "callable":
        return _uncalled(floor, arrangement, promise[1])
    return _meeting(floor, arrangement, promise)


def _unjoined(floor):
    """The certificate of the parts of a floor, None if it is joined."""
    lots = parts(floor)
    return ("parts", lots) if len(lots) > 1 else None


def _unfree(floor):
    """A certificate that a floor is not free, None if it is."""
    number = part_numbers(floor)[0]
    told = _unjoined(floor)
    return ("labels", number, labels(floor)) if told is None and number > 1 else told


def _undivided(floor, m):
    """The certificate of the first part whose number does not divide m, None if all do."""
    for p, number in enumerate(part_numbers(floor)):
        if m % number != 0:
            return "part", p, number
    return None


def _uncalled(floor, arrangement, goal):
    """A certificate that a goal is no arrangement that can be called, None if it is one."""
    if len(goal) != len(arrangement):
        return ("length",)
    return judge_called(floor, arrangement, goal) if called_rest(floor, arrangement, goal) is None else None


def _meeting(floor, arrangement, promise):
    """A certificate that two promised dancers are gone or can meet, None if they can never meet."""
    if promise[2] >= len(arrangement):
        return ("gone",)
    x, y = _places_of(floor, arrangement, promise)
    plan = meeting_plan(floor, x, y)
    return None if plan is None else ("plan", plan)


def _places_of(floor, arrangement, promise):
    """The places at which the two promised dancers stand."""
    spots = places(floor)
    return [spots[arrangement.index(dancer)] for dancer in promise[1:]]


def is_against(floor, arrangement, promise, thing):
    """Whether any value is a certificate against a promise."""
    word = promise[0]
    if word == "joined":
        return _are_parts(floor, thing)
    if word == "free":
        return _are_parts(floor, thing) or _are_labels(floor, thing)
    if word == "number":
        return _is_part(floor, promise[1], thing)
    if word == "callable":
        return _bars_goal(floor, arrangement, promise[1], thing)
    return _is_meeting_plan(floor, arrangement, promise, thing)


def _are_parts(floor, thing):
    """Whether any value is the certificate of the parts of a floor, two or more."""
    if not is_tagged(thing, "parts", 2) or not isinstance(thing[1], tuple):
        return False
    lots = thing[1]
    # A lot with a bool in it would be equal to a right one.
    return len(lots) > 1 and all([are_below(lot, len(floor[0])) for lot in lots]) and lots == parts(floor)


def _are_labels(floor, thing):
    """Whether any value is a certificate of a labelling to a number from 2 on that keeps a floor."""
    return is_tagged(thing, "labels", 3) and is_from(thing[1], 2) and keeps_all(floor, thing[1], thing[2])


def _is_part(floor, m, thing):
    """Whether any value is a certificate of a part whose number does not divide m."""
    numbers = part_numbers(floor)
    if not is_tagged(thing, "part", 3) or not is_below(thing[1], len(numbers)) or not is_whole(thing[2]):
        return False
    return thing[2] == numbers[thing[1]] and m % thing[2] != 0


def _bars_goal(floor, arrangement, goal, thing):
    """Whether any value is a certificate that a goal is no arrangement that can be called."""
    if len(goal) != len(arrangement):
        return is_tagged(thing, "length", 1)
    return not is_tagged(thing, "plan", 2) and called_holds(floor, arrangement, goal, thing)


def _is_meeting_plan(floor, arrangement, promise, thing):
    """Whether any value is a certificate that two promised dancers are gone or can meet."""
    if promise[2] >= len(arrangement):
        return is_tagged(thing, "gone", 1)
    if not is_tagged(thing, "plan", 2) or not is_plan(floor, thing[1]):
        return False
    x, y = _places_of(floor, arrangement, promise)
    return meet_behind(floor, x, y, thing[1])
