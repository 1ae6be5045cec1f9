"""Webs for the tests, and what the document says of them, worked out in other ways than the program does."""

import itertools
from fractions import Fraction

PATH = (3, [(0, 1, 2), (1, 2, 5)])
STAR = (3, [(0, 1, 1), (0, 2, 1)])
RING = (3, [(0, 1, 1), (1, 2, 1), (2, 0, 1)])
DOUBLE = (3, [(0, 1, 9), (1, 0, 4), (2, 1, 3), (0, 1, 6)])
SQUARE = (4, [(0, 1, 3), (1, 2, 1), (2, 3, 4), (3, 0, 2), (2, 1, 7)])
TREE = (5, [(3, 0, 2), (0, 1, 4), (1, 4, 1), (2, 1, 3)])


def all_joined(many, length=1):
    return (many, [(a, b, length) for b in range(many) for a in range(b)])


def some_web(chance, many, more, longest=9):
    """A web with `more` roads beside those of a tree; some of them may be double."""
    names = [0] + chance.sample(range(1, many), many - 1)
    ends = [(names[chance.randrange(k)], names[k]) for k in range(1, many)]
    if many > 1:
        ends.extend(tuple(chance.sample(range(many), 2)) for k in range(more))
    chance.shuffle(ends)
    return (many, [(a, b, chance.randint(1, longest)) for a, b in ends])


def road_apart(web, a, b):
    return min((length for c, d, length in web[1] if {a, b} == {c, d}), default=None)


def is_one_piece(web, places):
    """Whether each of the places can be come to from place 0 by these places alone."""
    come = [0]
    for place in come:
        come.extend(other for other in places if other not in come and road_apart(web, place, other))
    return len(come) == len(places)


def standings_apart(web, kind):
    found = []
    for many in range(web[0]):
        for others in itertools.combinations(range(1, web[0]), many):
            places = (0,) + others
            if is_one_piece(web, places):
                found.extend((places, here) for here in (places if kind == "walk" else (0,)))
    return sorted(found)


def steps_apart(web, kind, standing):
    """(length, standing behind) for each step."""
    places, here = standing
    steps = []
    for other in range(web[0]):
        behind = tuple(sorted({*places, other}))
        if kind == "walk" and road_apart(web, here, other):
            steps.append((road_apart(web, here, other), (behind, other)))
        if kind == "spread" and other not in places:
            lengths = [road_apart(web, place, other) for place in places if road_apart(web, place, other)]
            if lengths:
                steps.append((min(lengths), (behind, 0)))
    return steps


def ways_between(web):
    """The length of a shortest way from each place to each."""
    many = web[0]
    long = 10 ** 12
    ways = [[0 if a == b else road_apart(web, a, b) or long for b in range(many)] for a in range(many)]
    for c, a, b in itertools.product(range(many), repeat=3):
        ways[a][b] = min(ways[a][b], ways[a][c] + ways[c][b])
    return ways


def walk_pays(ways, weights, here, order):
    paid, whole = 0, 0
    for place in order:
        paid += ways[here][place]
        whole += weights[place] * paid
        here = place
    return whole


def spread_pays(web, weights, places, order):
    """What it pays to come to the rest in this order, or None where a place can't be come to then."""
    come, paid, whole = list(places), 0, 0
    for place in order:
        lengths = [road_apart(web, one, place) for one in come if road_apart(web, one, place)]
        if not lengths:
            return None
        paid += min(lengths)
        whole += weights[place] * paid
        come.append(place)
    return whole


def least_apart(web, kind, weights, standing):
    """Over all orders in which the rest can be come to. A walk that comes to other places on a shortest way between
    two of them pays no more than is counted here, and another order has that counted."""
    places, here = standing
    rest = [place for place in range(web[0]) if place not in places]
    orders = itertools.permutations(rest)
    if kind == "walk":
        ways = ways_between(web)
        return min(walk_pays(ways, weights, here, order) for order in orders)
    paid = [spread_pays(web, weights, places, order) for order in orders]
    return min(one for one in paid if one is not None)


def is_plain(thing):
    return type(thing) is int


def costs_apart(web, kind, plan):
    """What a whole plan pays for each place; None where it is none."""
    if type(plan) is not list:
        return None
    if kind == "walk":
        if not all(is_plain(place) and 0 <= place < web[0] for place in plan) or plan[:1] != [0]:
            return None
        gone = list(zip(plan, plan[1:]))
    else:
        if not all(type(step) is tuple and len(step) == 2 and all(map(is_plain, step)) for step in plan):
            return None
        gone = plan
        come = [0] + [b for a, b in plan]
        if sorted(come) != list(range(web[0])) or any(a not in come[:k + 1] for k, (a, b) in enumerate(plan)):
            return None
    lengths = [road_apart(web, a, b) for a, b in gone]
    if None in lengths:
        return None
    ends = [0] + [b for a, b in gone]
    if not all(place in ends for place in range(web[0])):
        return None
    return [sum(lengths[:ends.index(place)]) for place in range(web[0])]


def way_apart(web, here, there):
    """The places of a shortest way, behind `here`."""
    ways = ways_between(web)
    way = []
    while here != there:
        here = next(place for place in range(web[0]) if road_apart(web, here, place)
                    and road_apart(web, here, place) + ways[place][there] == ways[here][there])
        way.append(here)
    return way


def plans_apart(web, kind):
    """A plan for each order in which places can be come to, among them one that is best against any weights."""
    plans = []
    for order in itertools.permutations(range(1, web[0])):
        if kind == "walk":
            walk = [0]
            for place in order:
                walk.extend(way_apart(web, walk[-1], place))
            plans.append(walk)
        elif spread_pays(web, [0] * web[0], (0,), order) is not None:
            come = [0]
            spread = []
            for place in order:
                near = min((road_apart(web, one, place), one) for one in come if road_apart(web, one, place))[1]
                spread.append((near, place))
                come.append(place)
            plans.append(spread)
    return plans


def table_apart(web, kind, weights):
    return {standing: least_apart(web, kind, weights, standing) for standing in standings_apart(web, kind)}


def renamed(web, names):
    return (web[0], [(names[a], names[b], length) for a, b, length in web[1]])


def some_names(chance, many):
    """New names for the places; place 0 keeps its own."""
    return [0] + chance.sample(range(1, many), many - 1)


def longer(web, times):
    return (web[0], [(a, b, length * times) for a, b, length in web[1]])


def ahead_of(web):
    """For each place of a tree but 0 the place ahead of it on the way from 0, and the length of the road there."""
    ahead = {0: None}
    while len(ahead) < web[0]:
        for a, b, length in web[1]:
            for one, other in ((a, b), (b, a)):
                if one in ahead and other not in ahead:
                    ahead[other] = (one, length)
    return {place: road for place, road in ahead.items() if place}


def way_to(ahead, place):
    """The places on the way from 0, with this one and without 0."""
    return way_to(ahead, ahead[place][0]) + [place] if place else []


def depths_apart(web):
    ahead = ahead_of(web)
    return [sum(ahead[one][1] for one in way_to(ahead, place)) for place in range(web[0])]


def branches_apart(web):
    """For each place its branches: pairs of the branch's length and of all places in it, by their first places."""
    ahead = ahead_of(web)
    branches = {place: [] for place in range(web[0])}
    for first in sorted(ahead):
        within = [place for place in ahead if first in way_to(ahead, place)]
        branches[ahead[first][0]].append((sum(ahead[place][1] for place in within), within))
    return branches


def uneven_apart(web, weights):
    if len(weights) != web[0] or set(weights) == {0}:
        return -1
    for place, branches in sorted(branches_apart(web).items()):
        sums = [(length, sum(weights[one] for one in within)) for length, within in branches]
        if weights[place] < 0 or (branches and weights[place]):
            return place
        if any(one[1] * other[0] != other[1] * one[0] for one in sums for other in sums):
            return place
    return None


def even_shares(web):
    """The even weights as fractions whose sum is 1."""
    branches = branches_apart(web)
    shares = {0: Fraction(1)}
    fresh = [0]
    for place in fresh:
        whole = sum(length for length, within in branches[place])
        for length, within in branches[place]:
            first = min(within, key=lambda one: len(way_to(ahead_of(web), one)))
            shares[first] = shares[place] * length / whole
            fresh.append(first)
    return [Fraction(0) if branches[place] else shares[place] for place in range(web[0])]
