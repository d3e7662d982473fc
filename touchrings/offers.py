"""Wishes for touches: which ones are needless, and which ones make a floor free."""

from itertools import combinations

from touchrings.errors import BadOffers
from touchrings.floors import floor_of, is_floor, is_joined, need_floor, partners, parts, without_touch
from touchrings.labels import classes, is_free, keeps_all, labels, part_numbers
from touchrings.values import are_below, is_from, is_tagged


def needless(floor):
    """The ascending tuple of the numbers of the touches without which a floor has the same classes."""
    whole = classes(floor)
    return tuple([number for number in range(len(floor[1])) if classes(without_touch(floor, number)) == whole])


def are_offers(floor, thing):
    """Whether any value is offers of a floor."""
    need_floor(floor)
    # Offers alone would be the touches of a floor.
    if not is_floor((floor[0], thing)):
        return False
    taken = partners(floor)
    return all([x not in taken and y not in taken for x, y in thing])


def _need_offers(floor, offers):
    """Raise BadFloor for any value that is no floor, then BadOffers for any that is no offers of it."""
    if not are_offers(floor, offers):
        raise BadOffers(offers)


def _whole(floor, offers):
    """The floor with all touches that are told."""
    return floor_of(floor[0], [*floor[1], *offers])


def fewest_offers(floor, offers):
    """The least number of offers with which a floor is free, None if there is none."""
    _need_offers(floor, offers)
    # More touches never part a class, so nothing else is free if the whole is not.
    if not is_free(_whole(floor, offers)):
        return None
    pool = list(offers)
    for many in range(len(pool)):
        if any([is_free(_whole(floor, some)) for some in combinations(pool, many)]):
            return many
    return len(pool)


def judge_offers(floor, offers):
    """A certificate about whether some offers make a floor free."""
    _need_offers(floor, offers)
    whole = _whole(floor, offers)
    if is_free(whole):
        return "offers", tuple(range(len(offers)))
    if is_joined(whole):
        return "labels", part_numbers(whole)[0], labels(whole)
    return "apart", parts(whole)[0]


def offers_hold(floor, offers, thing):
    """Whether any value is a certificate about whether some offers make a floor free."""
    _need_offers(floor, offers)
    if is_tagged(thing, "offers", 2):
        lot = thing[1]
        return are_below(lot, len(offers)) and is_free(_whole(floor, [offers[at] for at in lot]))
    whole = _whole(floor, offers)
    if is_tagged(thing, "labels", 3):
        return is_from(thing[1], 2) and keeps_all(whole, thing[1], thing[2])
    return is_tagged(thing, "apart", 2) and _is_apart(whole, thing[1])


def _is_apart(floor, thing):
    """Whether any value is a lot of some rings of a floor, not of all, that no touch joins with the other ones."""
    if not are_below(thing, len(floor[0])) or not 0 < len(thing) < len(floor[0]):
        return False
    return all([(x[0] in thing) == (y[0] in thing) for x, y in floor[1]])
