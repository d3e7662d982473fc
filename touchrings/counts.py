"""How many arrangements can be called from the home arrangement, and their numbers."""

from math import factorial, lcm

from touchrings.errors import BadNumber
from touchrings.labels import classes, marks, step_of
from touchrings.plans import need_arrangement
from touchrings.remainders import clash, joint
from touchrings.values import is_below


def many_arrangements(floor):
    """How many arrangements can be called from the home arrangement."""
    return step_of(floor) * _many_orders([len(lot) for lot in classes(floor)])


def _many_orders(sizes):
    """In how many orders as many dancers can stand in each class as its size tells."""
    found = 1
    for size in sizes:
        found *= factorial(size)
    return found


def number_of(floor, arrangement):
    """The number of an arrangement among those that can be called from home, None if it is none of them."""
    need_arrangement(floor, arrangement)
    marked = marks(floor)
    free = list(range(len(arrangement)))
    told = (0, 1)
    number = 0
    for s, (dancer, block) in enumerate(zip(arrangement, _blocks(floor))):
        fitting = _fitting(marked, s, told, free)
        if dancer not in fitting:
            return None
        number += fitting.index(dancer) * block
        free.remove(dancer)
        told = joint(told, _shift(marked, s, dancer))
    return number


def arrangement_with(floor, number):
    """The arrangement with a number among those that can be called from home."""
    if not is_below(number, many_arrangements(floor)):
        raise BadNumber(number)
    marked = marks(floor)
    free = list(range(len(marked)))
    told = (0, 1)
    left = number
    found = []
    for s, block in enumerate(_blocks(floor)):
        dancer = _fitting(marked, s, told, free)[left // block]
        left = left % block
        found.append(dancer)
        free.remove(dancer)
        told = joint(told, _shift(marked, s, dancer))
    return tuple(found)


def _shift(marked, s, dancer):
    """The pair of the shift of a dancer that stands at a seat, from home, and the number of its part."""
    _, label, number = marked[s]
    return (label - marked[dancer][1]) % number, number


def _fitting(marked, s, told, free):
    """The free dancers that can stand at a seat if the seats ahead tell so much of the beats, ascending."""
    same = [dancer for dancer in free if marked[dancer][0] == marked[s][0]]
    return [dancer for dancer in same if not clash(told, _shift(marked, s, dancer))]


def _blocks(floor):
    """For each seat how many arrangements there are with one dancer at it, if the dancers at the seats ahead are told.

    These tell the beats by the numbers of all parts seen so far; any order of the dancers that are left will do.
    """
    marked = marks(floor)
    left = {mark: marked.count(mark) for mark in marked}
    step = step_of(floor)
    seen = 1
    found = []
    for mark in marked:
        seen = lcm(seen, mark[2])
        left[mark] -= 1
        found.append(step // seen * _many_orders(list(left.values())))
    return found
