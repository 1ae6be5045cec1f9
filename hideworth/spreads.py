"""Trees spread over: the worth at once, by the even weights."""

from hideworth.plays import average
from hideworth.ratios import plus, times
from hideworth.trees import beyond, branches_of, tree_worth


def depths_of(branches):
    depths = [0 for place in branches]
    for place in beyond(branches, 0):
        for end, length in branches[place]:
            depths[end] = depths[place] + length
    return depths


def tree_spread(web):
    total, paper, weights = tree_worth(web)
    mean = average(depths_of(branches_of(web)), weights)
    return (times((1, 2), plus(total, mean)), weights)
