"""Trees: the worth of a walked web is the sum of its lengths, told at once."""

from hideworth.errors import NoTree
from hideworth.ratios import common, ratio, times
from hideworth.webs import look_web


def is_tree(web):
    look_web(web)
    return len(web[1]) == web[0] - 1


def look_tree(web):
    if not is_tree(web):
        raise NoTree("a tree has one road less than places")


def ends_by_place(web):
    ends = [[] for place in range(web[0])]
    for a, b, length in web[1]:
        ends[a].append((b, length))
        ends[b].append((a, length))
    return ends


def branches_of(web):
    # For each place its roads away from place 0, tuples (end, length), those of the least ends ahead.
    ends = ends_by_place(web)
    branches = [[] for place in range(web[0])]
    come = {0: True}
    fresh = [0]
    while fresh:
        place = fresh.pop()
        branches[place] = sorted([road for road in ends[place] if road[0] not in come])
        for end, length in branches[place]:
            come[end] = True
            fresh.append(end)
    return branches


def round_from(branches, place):
    walk = [place]
    for end, length in branches[place]:
        walk = walk + round_from(branches, end) + [place]
    return walk


def beyond(branches, place):
    # The place itself and all beyond it, each ahead of those that lie beyond it.
    places = [place]
    for end, length in branches[place]:
        places = places + beyond(branches, end)
    return places


def sums_beyond(branches, numbers):
    return [sum([numbers[one] for one in beyond(branches, place)]) for place in range(len(branches))]


def branch_lengths(branches):
    # By the place at which a branch's first road ends: each road is counted at the end that lies away from place 0.
    lengths = [0 for place in branches]
    for roads in branches:
        for end, length in roads:
            lengths[end] = length
    return sums_beyond(branches, lengths)


def even_weights(branches):
    lengths = branch_lengths(branches)
    shares = [(1, 1) for place in branches]
    for place in beyond(branches, 0):
        ends = [end for end, length in branches[place]]
        whole = sum([lengths[end] for end in ends])
        for end in ends:
            shares[end] = times(shares[place], ratio(lengths[end], whole))
    # The shares' sum is 1: so a divisor of all tops would divide the bottom, too, and it would not be the least.
    tops, bottom = common([(0, 1) if roads else share for roads, share in zip(branches, shares)])
    return tops


def round_of(web):
    look_tree(web)
    return round_from(branches_of(web), 0)


def tree_worth(web):
    look_tree(web)
    branches = branches_of(web)
    there = round_from(branches, 0)
    back = list(reversed(there))
    total = sum([length for a, b, length in web[1]])
    return (ratio(total, 1), [(there, 1), (back, 1)], even_weights(branches))


def is_even_at(branches, lengths, weights, sums, place):
    if weights[place] < 0 or (branches[place] and weights[place] != 0):
        return False
    ends = [end for end, length in branches[place]]
    # Lengths are above 0, so what is as the one ahead is as all others, too.
    return all([sums[one] * lengths[other] == sums[other] * lengths[one] for one, other in zip(ends, ends[1:])])


def uneven(web, weights):
    look_tree(web)
    if len(weights) != web[0] or not any([weight != 0 for weight in weights]):
        return -1
    branches = branches_of(web)
    lengths = branch_lengths(branches)
    sums = sums_beyond(branches, weights)
    for place in range(web[0]):
        if not is_even_at(branches, lengths, weights, sums, place):
            return place
    return None
