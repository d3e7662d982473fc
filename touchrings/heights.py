"""Heights: labels of whole numbers, as they would be if the rings had no end; and the walks by which they are found.

From the first ring of each part a tree of touches leads to each other ring of it once. Along this tree the heights
grow by 1 at each step and stay at each touch; what the other touches and the lengths of the rings spoil tells the
numbers of the parts.
"""

from touchrings.floors import parts


def tree(floor):
    """The touches of the tree as pairs (x, y): x is on a ring that is reached already, y on the one reached next."""
    rings, touches = floor
    lots = parts(floor)
    reached = [False] * len(rings)
    for lot in lots:
        reached[lot[0]] = True
    crossings = [*touches, *[(y, x) for x, y in touches]]
    found = []
    while len(found) < len(rings) - len(lots):
        for x, y in crossings:
            if reached[x[0]] and not reached[y[0]]:
                reached[y[0]] = True
                found.append((x, y))
    return found


def heights(floor):
    """For each ring the height of its place 0; the first ring of each part has 0."""
    found = [0] * len(floor[0])
    for (u, i), (v, j) in tree(floor):
        found[v] = found[u] + i - j
    return found


def gaps(floor):
    """For each touch how much higher its first place is than its second one."""
    found = heights(floor)
    return [found[u] + i - found[v] - j for (u, i), (v, j) in floor[1]]


def rounds(floor):
    """Rounds of a joined floor as pairs (place, walk); the sums of all rounds are made from their sums."""
    rings, touches = floor
    ways = _walks(floor)
    found = [((u, 0), (length,)) for u, length in enumerate(rings)]
    for ((u, i), (v, j)), gap in zip(touches, gaps(floor)):
        # A round over a touch without a gap, as all of the tree are, has the sum 0.
        if gap != 0:
            there = ways[u] + _stepped(i) + ("touch",)
            found.append(((0, 0), there + _stepped(-j) + _back(ways[v])))
    return found


def _walks(floor):
    """For each ring of a joined floor the walk along the tree from the place 0 of the first ring to its place 0."""
    found = [()] * len(floor[0])
    for (u, i), (v, j) in tree(floor):
        found[v] = found[u] + _stepped(i) + ("touch",) + _stepped(-j)
    return found


def _stepped(k):
    """The walk that steps on k times, which must not be told if k is 0."""
    return () if k == 0 else (k,)


def _back(walk):
    """The walk that leads back."""
    return tuple([item if item == "touch" else -item for item in walk[::-1]])


def sum_of(walk):
    """The sum of the integers of a walk."""
    return sum([item for item in walk if item != "touch"])
