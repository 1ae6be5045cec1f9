"""Webs of roads, and what a seeker's plan on one pays for each hiding place."""

from hideworth.checks import is_whole, is_within
from hideworth.errors import NoKind, NoPlan, NoWeb, TooGreat

MOST_PLACES = 60
MOST_SMALL = 7
MOST_ROADS = 120
MOST_LENGTH = 1000000
KINDS = ("walk", "spread")


def is_road(thing, many):
    if not isinstance(thing, tuple) or len(thing) != 3:
        return False
    a, b, length = thing
    return is_within(a, 0, many - 1) and is_within(b, 0, many - 1) and a != b and is_within(length, 1, MOST_LENGTH)


def places_come_to(roads):
    come = {0: True}
    before = 0
    while before < len(come):
        before = len(come)
        for a, b, length in roads:
            if a in come or b in come:
                come[a] = True
                come[b] = True
    return come


def look_web(web):
    if not isinstance(web, tuple) or len(web) != 2 or not is_whole(web[0]) or not isinstance(web[1], list):
        raise NoWeb(-1)
    many, roads = web
    for k, road in enumerate(roads):
        if not is_road(road, many):
            raise NoWeb(k)
    if not 1 <= many <= MOST_PLACES or len(roads) > MOST_ROADS or len(places_come_to(roads)) < many:
        raise NoWeb(-1)


def look_kind(kind):
    if kind not in KINDS:
        raise NoKind("a kind is walk or spread")


def look_small(web, kind):
    look_web(web)
    if web[0] > MOST_SMALL:
        raise TooGreat("a small web has at most seven places")
    look_kind(kind)


def shortest_roads(web):
    # From place to place, both ways.
    lengths = {}
    for a, b, length in web[1]:
        least = min(length, lengths.get((a, b), length))
        lengths[(a, b)] = least
        lengths[(b, a)] = least
    return lengths


def joined(web, a, b):
    look_web(web)
    return shortest_roads(web).get((a, b))


def is_walk_step(lengths, plan, k):
    # Truths are like 0 and 1 as keys, so a thing's kind is asked ahead.
    if not is_whole(plan[k]):
        return False
    if k == 0:
        return plan[0] == 0
    return (plan[k - 1], plan[k]) in lengths


def walk_costs(lengths, plan):
    costs = {}
    paid = 0
    for k, place in enumerate(plan):
        if not is_walk_step(lengths, plan, k):
            raise NoPlan(k)
        if k > 0:
            paid = paid + lengths[(plan[k - 1], place)]
        costs.setdefault(place, paid)
    return costs


def is_spread_step(lengths, costs, step):
    if not isinstance(step, tuple) or len(step) != 2 or not is_whole(step[0]) or not is_whole(step[1]):
        return False
    return step[0] in costs and step[1] not in costs and step in lengths


def spread_costs(lengths, plan):
    costs = {0: 0}
    paid = 0
    for k, step in enumerate(plan):
        if not is_spread_step(lengths, costs, step):
            raise NoPlan(k)
        paid = paid + lengths[step]
        costs[step[1]] = paid
    return costs


def whole_costs(many, lengths, kind, plan):
    if not isinstance(plan, list):
        raise NoPlan(0)
    costs = walk_costs(lengths, plan) if kind == "walk" else spread_costs(lengths, plan)
    if len(costs) < many:
        raise NoPlan(len(plan))
    return [costs[place] for place in range(many)]


def costs_of(web, kind, plan):
    look_web(web)
    look_kind(kind)
    return whole_costs(web[0], shortest_roads(web), kind, plan)
