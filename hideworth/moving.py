"""Hiders that move: courses, lists of looks, and the chance to find."""

from hideworth.checks import is_whole, is_within
from hideworth.errors import NoTurns, TooGreat
from hideworth.pivots import solved
from hideworth.plays import whole_of
from hideworth.ratios import lowest, minus, ratio
from hideworth.webs import look_web, shortest_roads

MOST_PLACES = 5
MOST_TURNS = 4


def look_moving(web, turns):
    look_web(web)
    if web[0] > MOST_PLACES:
        raise TooGreat("hiders move on at most five places")
    if not is_within(turns, 1, MOST_TURNS):
        raise NoTurns("turns are a whole number from 1 to 4")


def place_lists(many, turns):
    # All lists of as many places as turns, in the order of lists.
    found = [[]]
    for turn in range(turns):
        longer = []
        for one in found:
            longer.extend([one + [place] for place in range(many)])
        found = longer
    return found


def is_course(lengths, places):
    return all([a == b or (a, b) in lengths for a, b in zip(places, places[1:])])


def courses(web, turns):
    look_moving(web, turns)
    lengths = shortest_roads(web)
    return [one for one in place_lists(web[0], turns) if is_course(lengths, one)]


def is_share(thing, many, turns):
    if not isinstance(thing, tuple) or len(thing) != 2 or not is_whole(thing[1]) or thing[1] < 1:
        return False
    places = thing[0]
    if not isinstance(places, list) or len(places) != turns:
        return False
    return all([is_within(place, 0, many - 1) for place in places])


def first_wrong(paper, is_right):
    if not isinstance(paper, list) or len(paper) == 0:
        return 0
    for k, share in enumerate(paper):
        if not is_right(share):
            return k
    return None


def found_sums(many, turns, paper):
    # Tuples (places, sum of the weights of the paper's lists that meet these), in the order of lists. Those that
    # missed so far are handed on from turn to turn, so that none is looked at anew for each list.
    left = [([], paper)]
    for turn in range(turns):
        longer = []
        for places, shares in left:
            for place in range(many):
                missed = [share for share in shares if share[0][turn] != place]
                longer.append((places + [place], missed))
        left = longer
    whole = whole_of(paper)
    return [(places, whole - whole_of(shares)) for places, shares in left]


def first_course_below(many, turns, lengths, worth, paper):
    bound = worth[0] * whole_of(paper)
    for places, found in found_sums(many, turns, paper):
        if found * worth[1] < bound and is_course(lengths, places):
            return places
    return None


def first_look_above(many, turns, worth, paper):
    bound = worth[0] * whole_of(paper)
    for places, found in found_sums(many, turns, paper):
        if found * worth[1] > bound:
            return places
    return None


def moving_judged(web, turns, worth, looks, courses):
    look_moving(web, turns)
    lengths = shortest_roads(web)
    k = first_wrong(looks, lambda share: is_share(share, web[0], turns))
    if k is not None:
        return ("looks", k)
    k = first_wrong(courses, lambda share: is_share(share, web[0], turns) and is_course(lengths, share[0]))
    if k is not None:
        return ("courses", k)
    course = first_course_below(web[0], turns, lengths, worth, looks)
    if course is not None:
        return ("course", course)
    look = first_look_above(web[0], turns, worth, courses)
    if look is not None:
        return ("look", look)
    return None


def renamings(web):
    # The ways to name the places otherwise by which the same places are joined.
    lengths = shortest_roads(web)
    orders = [one for one in place_lists(web[0], web[0]) if len(set(one)) == web[0]]
    return [one for one in orders if all([(one[a], one[b]) in lengths for a, b in lengths])]


def group_of(places, names):
    # What it comes to by all renamings, with the turns in their order or turned about.
    there = [tuple([one[place] for place in places]) for one in names]
    back = [tuple(reversed(one)) for one in there]
    return sorted(set(there + back))


def groups_of(lists, names):
    found = {}
    groups = []
    for places in lists:
        if tuple(places) not in found:
            group = group_of(places, names)
            found.update([(one, True) for one in group])
            groups.append(group)
    return groups


def misses(group, course):
    return len([looks for looks in group if not any([a == b for a, b in zip(looks, course)])])


def spread_weights(groups, weights, scale):
    # Within a group all weigh alike.
    plans = []
    shares = []
    for group, weight in zip(groups, weights):
        if weight > 0:
            plans.extend(group)
            shares.extend([weight * (scale // len(group)) for places in group])
    return [(list(places), share) for places, share in zip(plans, lowest(shares))]


def moving_worth(web, turns):
    look_moving(web, turns)
    names = renamings(web)
    # A best mix stays one when its places are renamed, and so does the average of all these. So whole groups are
    # weighed, of which there are far fewer. A group's size divides the count of all ways to rename and turn.
    scale = 2 * len(names)
    seeking = groups_of(place_lists(web[0], turns), names)
    hiding = groups_of(courses(web, turns), names)
    table = [[scale // len(group) * misses(group, other[0]) for other in hiding] for group in seeking]
    missed, rows, columns = solved(table)
    worth = minus((1, 1), ratio(missed[0], missed[1] * scale))
    return (worth, spread_weights(seeking, rows, scale), spread_weights(hiding, columns, scale))
