"""Swaps: exchanges of two dancers alone, by one called touch in a row of beats that leads all others where they'd pass.

If a touch (x, y) is called behind the t-th beat alone, then just the two dancers are exchanged who began t steps ahead
of x and of y. The seats that such swaps join are those of one class.
"""

from math import lcm

from touchrings.maps import repeated, step_map, touch_seats


def round_length(floor):
    """The least number of beats from 1 on behind which everybody is home again if nothing is called."""
    found = 1
    for length in floor[0]:
        found = lcm(found, length)
    return found


def ties(floor):
    """For each seat the dict from each seat that a swap joins with it to the pair (t, number) of such a swap."""
    rings, touches = floor
    back = repeated(step_map(floor), -1)
    found = [{} for _ in back]
    for number, (s, r) in enumerate(touch_seats(floor)):
        x, y = touches[number]
        for t in range(1, lcm(rings[x[0]], rings[y[0]]) + 1):
            s, r = back[s], back[r]
            found[s].setdefault(r, (t, number))
            found[r].setdefault(s, (t, number))
    return found


def hops(tied, goal, allowed):
    """For each allowed seat from which swaps lead to a goal, the next seat on a shortest row of them; nearest first."""
    found = {goal: goal}
    newest = [goal]
    while newest != []:
        later = []
        for s in newest:
            for r in tied[s]:
                if r in allowed and r not in found:
                    found[r] = s
                    later.append(r)
        newest = later
    return found


def swaps(tied, one, goal):
    """What ties tell of the swaps, one behind the other, that lead one arrangement to a goal within joined seats.

    Of n dancers on joined seats each seat takes at most as many swaps as seats are left, so there are at most n times
    (n - 1), divided by 2, of them.
    """
    now = list(one)
    left = {s: True for s in range(len(now))}
    found = []
    while left != {}:
        # The farthest seat can be left out without parting the other ones.
        last = list(hops(tied, min(left), left))[-1]
        nearer = hops(tied, last, left)
        s = now.index(goal[last])
        while s != last:
            r = nearer[s]
            found.append(tied[s][r])
            now[s], now[r] = now[r], now[s]
            s = r
        del left[last]
    return found
