"""Remainders: pairs (rest, step), which tell all integers with the remainder rest by step."""

from math import gcd, lcm


def clash(one, other):
    """Whether no integer is told by both of two pairs."""
    return (one[0] - other[0]) % gcd(one[1], other[1]) != 0


def joint(one, other):
    """The pair that tells what both of two pairs tell, None if that is nothing."""
    if clash(one, other):
        return None
    rest, step = one
    wanted, by = other
    # The rests of all numbers with the first remainder come round within by tries.
    while rest % by != wanted:
        rest += step
    return rest, lcm(step, by)


def joint_of_all(pairs):
    """The pair that tells what all pairs tell, None if that is nothing; None among them tells nothing."""
    found = (0, 1)
    for pair in pairs:
        if pair is None or found is None:
            return None
        found = joint(found, pair)
    return found


def first_clash(pairs):
    """The first two positions of pairs that clash; there must be such ones."""
    for j, other in enumerate(pairs):
        for i, one in enumerate(pairs[:j]):
            if clash(one, other):
                return i, j
    return None
