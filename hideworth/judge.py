"""The judge of papers for a web's worth: plain sums, whoever wrote the papers."""

from hideworth.checks import are_weights, is_whole
from hideworth.errors import NoPaper, NoPlan
from hideworth.steps import FIRST, rest_of, steps_by_standing
from hideworth.webs import look_small, shortest_roads, whole_costs


def standings(web, kind):
    look_small(web, kind)
    return list(steps_by_standing(shortest_roads(web), kind))


def share_costs(web, lengths, kind, share):
    # None where it is no tuple of a whole plan and a weight.
    if not isinstance(share, tuple) or len(share) != 2 or not is_whole(share[1]) or share[1] < 1:
        return None
    try:
        return whole_costs(web[0], lengths, kind, share[0])
    except NoPlan:
        return None


def paper_costs(web, lengths, kind, paper):
    if not isinstance(paper, list) or len(paper) == 0:
        raise NoPaper(0)
    rows = []
    for k, share in enumerate(paper):
        costs = share_costs(web, lengths, kind, share)
        if costs is None:
            raise NoPaper(k)
        rows.append(costs)
    return rows


def first_wrong_place(worth, weights, rows):
    for j in range(len(rows[0])):
        paid = sum([weight * costs[j] for weight, costs in zip(weights, rows)])
        if paid * worth[1] > worth[0] * sum(weights):
            return ("place", j)
    return None


def seeker_judged(web, lengths, kind, worth, paper):
    try:
        rows = paper_costs(web, lengths, kind, paper)
    except NoPaper as refusal:
        return ("plan", refusal.k)
    return first_wrong_place(worth, [weight for plan, weight in paper], rows)


def is_hider_paper(thing, many):
    if not isinstance(thing, tuple) or len(thing) != 2:
        return False
    return are_weights(thing[0], many) and isinstance(thing[1], dict)


def is_standing_form(thing):
    if not isinstance(thing, tuple) or len(thing) != 2 or not isinstance(thing[0], tuple):
        return False
    return is_whole(thing[1]) and all([is_whole(place) for place in thing[0]])


def numbers_by_standing(table):
    # As keys, truths are found in the place of 0 and 1: what has them is no standing.
    return dict([(key, number) for key, number in table.items() if is_standing_form(key)])


def is_number_right(weights, numbers, standing, steps):
    asked = [standing] + [behind for a, b, length, behind in steps]
    if not all([is_whole(numbers.get(one)) for one in asked]):
        return False
    rest = rest_of(weights, standing)
    if rest == 0:
        return numbers[standing] <= 0
    return all([numbers[standing] <= length * rest + numbers[behind] for a, b, length, behind in steps])


def hider_judged(web, lengths, kind, worth, paper):
    if not is_hider_paper(paper, web[0]):
        return ("weights",)
    weights = paper[0]
    numbers = numbers_by_standing(paper[1])
    for standing, steps in steps_by_standing(lengths, kind).items():
        if not is_number_right(weights, numbers, standing, steps):
            return ("standing", standing[0], standing[1])
    if numbers[FIRST] * worth[1] < worth[0] * sum(weights):
        return ("first",)
    return None


def judged(web, kind, worth, seeker, hider):
    look_small(web, kind)
    lengths = shortest_roads(web)
    wrong = seeker_judged(web, lengths, kind, worth, seeker)
    if wrong is not None:
        return wrong
    return hider_judged(web, lengths, kind, worth, hider)
