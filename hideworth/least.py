"""Least tables: the least that any plan pays from each standing on, against known weights."""

from hideworth.checks import are_weights
from hideworth.errors import NoWeights
from hideworth.steps import FIRST, rest_of, steps_by_standing
from hideworth.webs import look_small, shortest_roads


def look_weights(web, kind, weights):
    look_small(web, kind)
    if not are_weights(weights, web[0]):
        raise NoWeights("weights are whole numbers from 0 on, one for each place, not all 0")


def groups_by_places(steps):
    # Standings of the same places, more places ahead: a step leads within a group or to one ahead of it.
    groups = {}
    for standing in sorted(steps, key=lambda one: -len(one[0])):
        groups.setdefault(standing[0], []).append(standing)
    return list(groups.values())


def step_sums(numbers, rest, steps):
    # Each step with what it and all behind it pay, where that is known yet.
    known = [step for step in steps if step[3] in numbers]
    return [(length * rest + numbers[behind], a, b, behind) for a, b, length, behind in known]


def settle_group(numbers, steps, rest, group):
    # A best way out of a group goes through each standing of it once at most, so as many rounds find it.
    for turn in group:
        for standing in group:
            sums = step_sums(numbers, rest, steps[standing])
            if sums:
                numbers[standing] = min(sums)[0]


def least_numbers(steps, weights):
    numbers = {}
    for group in groups_by_places(steps):
        rest = rest_of(weights, group[0])
        if rest == 0:
            numbers.update([(standing, 0) for standing in group])
        else:
            settle_group(numbers, steps, rest, group)
    return dict([(standing, numbers[standing]) for standing in steps])


def least_table(web, kind, weights):
    look_weights(web, kind, weights)
    return least_numbers(steps_by_standing(shortest_roads(web), kind), weights)


def best_roads(steps, weights, standing):
    # The roads gone, and the standing come to, till the rest is 0. A step pays more than nothing as long as there
    # is a rest, so what is left to be paid falls and no way goes in a ring.
    numbers = least_numbers(steps, weights)
    roads = []
    while rest_of(weights, standing) > 0:
        least, a, b, behind = min(step_sums(numbers, rest_of(weights, standing), steps[standing]))
        roads.append((a, b))
        standing = behind
    return (roads, standing)


def plan_against(steps, kind, weights):
    roads, standing = best_roads(steps, weights, FIRST)
    # Places without a weight may not have been come to yet: with a weight at each the rest is 0 at the end alone.
    more, end = best_roads(steps, [1 for place in weights], standing)
    if kind == "spread":
        return roads + more
    return [0] + [b for a, b in roads + more]


def best_plan(web, kind, weights):
    look_weights(web, kind, weights)
    return plan_against(steps_by_standing(shortest_roads(web), kind), kind, weights)
