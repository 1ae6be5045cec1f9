"""What a paper shows by itself: the worth is no more, or no less."""

from hideworth.judge import paper_costs
from hideworth.least import least_table
from hideworth.plays import average
from hideworth.ratios import below, ratio
from hideworth.steps import FIRST
from hideworth.webs import look_small, shortest_roads


def high_of(web, kind, paper):
    look_small(web, kind)
    rows = paper_costs(web, shortest_roads(web), kind, paper)
    weights = [weight for plan, weight in paper]
    high = (0, 1)
    for place in range(web[0]):
        here = average([costs[place] for costs in rows], weights)
        if below(high, here):
            high = here
    return high


def low_of(web, kind, weights):
    least = least_table(web, kind, weights)
    return ratio(least[FIRST], sum(weights))
