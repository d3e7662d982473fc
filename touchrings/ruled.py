"""Touches with rules: some change always, never, or at every so many beats, and the other ones if they are called."""

from math import lcm

from touchrings.errors import BadNumber, BadPlan, BadRules, NotSettled
from touchrings.floors import floor_of, need_floor, need_place, places, seat
from touchrings.maps import beat_map, composed, cycles, led_by, moves, order, repeated
from touchrings.plans import need_arrangement, need_arrangements
from touchrings.values import are_below, is_below, is_from, is_tagged

WORDS = ("call", "always", "never")
LEAST_EVERY = 2
MOST_EVERY = 6


def are_rules(floor, thing):
    """Whether any value is rules of a floor."""
    need_floor(floor)
    return isinstance(thing, tuple) and len(thing) == len(floor[1]) and all([_is_rule(rule) for rule in thing])


def _is_rule(thing):
    """Whether any value is a rule of one touch."""
    if thing in WORDS:
        return True
    if not is_tagged(thing, "every", 3) or not is_from(thing[1], LEAST_EVERY):
        return False
    return thing[1] <= MOST_EVERY and is_below(thing[2], thing[1])


def _need_rules(floor, rules):
    """Raise BadFloor for any value that is no floor, then BadRules for any that is no rules of it."""
    if not are_rules(floor, rules):
        raise BadRules(rules)


def _numbers_with(rules, word):
    """The numbers of the touches with a rule that is a word."""
    return [number for number, rule in enumerate(rules) if rule == word]


def _changing(rules, t):
    """The numbers of the touches that change behind the t-th beat whatever is called."""
    every = [number for number, rule in enumerate(rules) if rule not in WORDS and t % rule[1] == rule[2]]
    return every + _numbers_with(rules, "always")


def _period(rules):
    """The least common multiple of all numbers of beats that rules tell."""
    found = 1
    for rule in rules:
        if rule not in WORDS:
            found = lcm(found, rule[1])
    return found


def _idle_maps(floor, rules, beats):
    """The maps of the first 0, 1, .. beats without calls, up to that many."""
    moved = moves(floor)
    found = [list(range(sum(floor[0])))]
    for t in range(1, beats + 1):
        found.append(composed(found[-1], beat_map(moved, _changing(rules, t))))
    return found


def ruled_after(floor, rules, arrangement, calls):
    """The arrangement behind ruled calls, one for each beat from the first one on."""
    _need_rules(floor, rules)
    need_arrangement(floor, arrangement)
    if not isinstance(calls, tuple) or not all([_is_ruled_call(rules, call) for call in calls]):
        raise BadPlan(calls)
    moved = moves(floor)
    found = arrangement
    for t, call in enumerate(calls, start=1):
        found = led_by(found, beat_map(moved, _changing(rules, t) + list(call)))
    return found


def _is_ruled_call(rules, thing):
    """Whether any value is an ascending tuple of numbers of touches that can be called."""
    return are_below(thing, len(rules)) and all([rules[number] == "call" for number in thing])


def settled_at(floor, rules, place, t):
    """Where the dancer from a place stands behind t beats by settled rules."""
    _need_rules(floor, rules)
    need_place(floor, place)
    if not is_from(t, 0):
        raise BadNumber(t)
    if "call" in rules:
        raise NotSettled()
    period = _period(rules)
    maps = _idle_maps(floor, rules, period)
    whole = repeated(maps[period], t // period)
    return places(floor)[maps[t % period][whole[seat(floor, place)]]]


def made_floor(floor, rules):
    """The pair of the made floor and of the tuple of its places for all seats of the floor."""
    _need_rules(floor, rules)
    if not all([rule in WORDS for rule in rules]):
        raise BadRules(rules)
    once = beat_map(moves(floor), _changing(rules, 1))
    rounds = cycles(once)
    named = {s: (u, i) for u, cycle in enumerate(rounds) for i, s in enumerate(cycle)}
    names = tuple([named[s] for s in range(len(once))])
    called = {place: name for place, name in zip(places(floor), names)}
    touches = [floor[1][number] for number in _numbers_with(rules, "call")]
    made = floor_of(tuple([len(cycle) for cycle in rounds]), [(called[x], called[y]) for x, y in touches])
    return made, names


def rules_round(floor, rules):
    """The least multiple of the period, in beats, behind which everybody is where they began if no call is made."""
    _need_rules(floor, rules)
    period = _period(rules)
    return period * order(_idle_maps(floor, rules, period)[period])


def _heads(floor, rules, maps):
    """For each seat the least seat whose place is of one lot with its place, by the maps of a whole round."""
    touched = moves(floor)[1]
    heads = list(range(sum(floor[0])))
    for led in maps:
        for number in _numbers_with(rules, "call"):
            low, high = sorted([heads[led.index(s)] for s in touched[number]])
            if low != high:
                heads = [low if head == high else head for head in heads]
    return heads


def tied_lots(floor, rules):
    """The ascending tuple of the lots of places that touches with calls tie, each an ascending tuple of places."""
    maps = _idle_maps(floor, rules, rules_round(floor, rules))
    heads = _heads(floor, rules, maps[1:])
    spots = places(floor)
    return tuple([tuple([spots[s] for s, head in enumerate(heads) if head == least]) for least in sorted(set(heads))])


def ruled_rests(floor, rules, one, other):
    """The ascending tuple of the remainders by the round of the numbers of beats that lead one to other."""
    _need_rules(floor, rules)
    need_arrangements(floor, one, other)
    maps = _idle_maps(floor, rules, rules_round(floor, rules))
    heads = _heads(floor, rules, maps[1:])
    lot_of = {dancer: head for dancer, head in zip(one, heads)}
    # The maps lead the lot of a place of one to the place of other that a dancer of this lot must have.
    return tuple([s for s, led in enumerate(maps[:-1])
                  if all([lot_of[other[r]] == head for r, head in zip(led, heads)])])
