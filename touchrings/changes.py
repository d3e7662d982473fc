"""Changes of a state, which is a floor, an arrangement on it, and a tuple of promises; no state is changed itself."""

from touchrings.errors import BadChange, BadNumber, BadPlan, BadPromise, Broken, FloorError, TooMany
from touchrings.floors import with_touch, without_touch
from touchrings.plans import after
from touchrings.promises import against, is_promise
from touchrings.values import are_below, is_below, is_tagged

MOST_PLACES = 40


def changed(state, change):
    """The state behind a change, whether the promises hold there or not."""
    floor, arrangement, promises = state
    if is_tagged(change, "beat", 2):
        return floor, _after_beat(floor, arrangement, change[1]), promises
    if is_tagged(change, "plan", 2):
        return floor, after(floor, arrangement, change[1]), promises
    if is_tagged(change, "open", 3):
        return with_touch(floor, change[1], change[2]), arrangement, promises
    if is_tagged(change, "bar", 2):
        return without_touch(floor, change[1]), arrangement, promises
    if is_tagged(change, "lengthen", 2):
        longer, row = _lengthened(floor, arrangement, change[1])
        return longer, row, promises
    if is_tagged(change, "promise", 2):
        return floor, arrangement, _with_promise(promises, change[1])
    if is_tagged(change, "drop", 2):
        return floor, arrangement, _without_promise(promises, change[1])
    raise BadChange(0)


def _after_beat(floor, arrangement, call):
    """The arrangement behind a beat with a call."""
    if not are_below(call, len(floor[1])):
        raise BadPlan(call)
    return after(floor, arrangement, (("beat", call),))


def _lengthened(floor, arrangement, u):
    """The pair of a floor with one more place, the last one of a ring, and of the arrangement with a dancer there."""
    rings, touches = floor
    if not is_below(u, len(rings)):
        raise BadNumber(u)
    if len(arrangement) >= MOST_PLACES:
        raise TooMany(MOST_PLACES)
    at = sum(rings[:u + 1])
    longer = (*rings[:u], rings[u] + 1, *rings[u + 1:])
    return (longer, touches), (*arrangement[:at], len(arrangement), *arrangement[at:])


def _with_promise(promises, promise):
    """Promises with one more behind them."""
    if not is_promise(promise) or promise in promises:
        raise BadPromise(promise)
    return *promises, promise


def _without_promise(promises, promise):
    """Promises without one of them."""
    # A value with a bool in it is no promise, though it may be equal to one.
    if not is_promise(promise) or promise not in promises:
        raise BadPromise(promise)
    return tuple([other for other in promises if other != promise])


def need_kept(state):
    """Raise Broken for the first promise of a state that does not hold."""
    floor, arrangement, promises = state
    for promise in promises:
        told = against(floor, arrangement, promise)
        if told is not None:
            raise Broken(promise, told)


def dealt(state, changes):
    """The state behind a deal, which is changes done one behind the other."""
    if not isinstance(changes, tuple):
        raise BadChange(-1)
    for at, change in enumerate(changes):
        try:
            state = changed(state, change)
        except FloorError:
            raise BadChange(at) from None
    need_kept(state)
    return state
