"""Boxes and looks that miss: the greatest chance to find for a budget."""

from hideworth.checks import are_weights, is_fraction, is_whole, is_within
from hideworth.errors import NoBoxes, NoBudget
from hideworth.ratios import below, common, lowest, minus, over, plus, ratio, shared_divisor, times

MOST_BOXES = 6
MOST_COST = 60
MOST_OF = 50
MOST_LOOKS = 60
MOST_BUDGET = 60


def is_box(thing):
    if not isinstance(thing, tuple) or len(thing) != 3:
        return False
    cost, hits, of = thing
    return is_within(cost, 1, MOST_COST) and is_within(of, 1, MOST_OF) and is_within(hits, 1, of)


def look_boxes(boxes):
    if not isinstance(boxes, list) or not 1 <= len(boxes) <= MOST_BOXES or not all([is_box(box) for box in boxes]):
        raise NoBoxes("boxes are one to six tuples (cost, hits, of)")


def look_budget(budget):
    if not is_within(budget, 0, MOST_BUDGET):
        raise NoBudget("a budget is a whole number from 0 to sixty")


def is_plan(thing, boxes):
    if not isinstance(thing, list) or len(thing) != len(boxes):
        return False
    return all([is_within(count, 0, MOST_LOOKS) for count in thing])


def power(base, count):
    product = 1
    for k in range(count):
        product = product * base
    return product


def missed(box, count):
    # Top and bottom of the chance to miss, not in lowest terms: the judge compares by whole numbers alone.
    return (power(box[2] - box[1], count), power(box[2], count))


def chance(box, count):
    top, bottom = missed(box, count)
    return ratio(bottom - top, bottom)


def gain(box, count):
    # What the look behind `count` looks adds to the chance.
    top, bottom = missed(box, count)
    return ratio(top * box[1], bottom * box[2])


def cost_sum(boxes, plan):
    return sum([box[0] * count for box, count in zip(boxes, plan)])


def plan_cost(boxes, plan):
    look_boxes(boxes)
    return cost_sum(boxes, plan)


def found_by(boxes, plan):
    look_boxes(boxes)
    return [chance(box, count) for box, count in zip(boxes, plan)]


def is_share(thing, boxes):
    if not isinstance(thing, tuple) or len(thing) != 2:
        return False
    return is_plan(thing[0], boxes) and is_whole(thing[1]) and thing[1] >= 1


def is_mix(thing, boxes):
    return isinstance(thing, list) and len(thing) >= 1 and all([is_share(share, boxes) for share in thing])


def finds_enough(box, counts, weights, worth):
    # A plan may look sixty times at most, so sixty times `of` with itself is a bottom for all of them.
    whole = power(box[2], MOST_LOOKS)
    parts = 0
    for count, weight in zip(counts, weights):
        top, bottom = missed(box, count)
        parts = parts + weight * (bottom - top) * (whole // bottom)
    return parts * worth[1] >= worth[0] * sum(weights) * whole


def is_seeker_right(boxes, budget, worth, mix):
    if not is_mix(mix, boxes):
        return False
    weights = [weight for plan, weight in mix]
    if sum([weight * cost_sum(boxes, plan) for plan, weight in mix]) > budget * sum(weights):
        return False
    columns = [[plan[k] for plan, weight in mix] for k in range(len(boxes))]
    return all([finds_enough(box, counts, weights, worth) for box, counts in zip(boxes, columns)])


def is_hider_paper(thing, boxes):
    if not isinstance(thing, tuple) or len(thing) != 3:
        return False
    weights, price, counts = thing
    return are_weights(weights, len(boxes)) and is_fraction(price) and price[0] >= 0 and is_plan(counts, boxes)


def is_last_look_worth(box, weight, price, count):
    top, bottom = missed(box, count - 1)
    return weight * box[1] * top * price[1] >= price[0] * box[0] * box[2] * bottom


def is_next_look_dear(box, weight, price, count):
    top, bottom = missed(box, count)
    return weight * box[1] * top * price[1] <= price[0] * box[0] * box[2] * bottom


def is_count_best(box, weight, price, count):
    if count > 0 and not is_last_look_worth(box, weight, price, count):
        return False
    return is_next_look_dear(box, weight, price, count)


def is_sum_low(boxes, budget, worth, paper):
    weights, price, counts = paper
    misses = [missed(box, count) for box, count in zip(boxes, counts)]
    whole = 1
    for top, bottom in misses:
        whole = whole * bottom
    found = sum([weight * (miss[1] - miss[0]) * (whole // miss[1]) for weight, miss in zip(weights, misses)])
    spare = price[0] * (budget - cost_sum(boxes, counts)) * whole
    return (found * price[1] + spare) * worth[1] <= worth[0] * sum(weights) * whole * price[1]


def is_hider_right(boxes, budget, worth, paper):
    if not is_hider_paper(paper, boxes):
        return False
    weights, price, counts = paper
    for box, weight, count in zip(boxes, weights, counts):
        if not is_count_best(box, weight, price, count):
            return False
    return is_sum_low(boxes, budget, worth, paper)


def budget_judged(boxes, budget, worth, mix, paper):
    look_boxes(boxes)
    look_budget(budget)
    if not is_seeker_right(boxes, budget, worth, mix):
        return ("seeker",)
    if not is_hider_right(boxes, budget, worth, paper):
        return ("hider",)
    return None


def added(fractions):
    total = (0, 1)
    for fraction in fractions:
        total = plus(total, fraction)
    return total


def least_chance(chances):
    least = chances[0]
    for one in chances:
        if below(one, least):
            least = one
    return least


def fair_weights(boxes, counts):
    # So weighed, one look more pays its cost in each box alike, at price 1.
    return [over((box[0], 1), gain(box, count)) for box, count in zip(boxes, counts)]


def chance_for(boxes, budget, counts):
    # The chance in each box for which the budget is spent just when each box's average stands between its count
    # and one more: what a share of a look costs there is the same all the way.
    weights = fair_weights(boxes, counts)
    chances = [chance(box, count) for box, count in zip(boxes, counts)]
    found = added([times(weight, one) for weight, one in zip(weights, chances)])
    spare = budget - cost_sum(boxes, counts)
    return over(plus(found, (spare, 1)), added(weights))


def counts_and_worth(boxes, budget):
    # Ever more chance is bought in all boxes alike; where one of them has its next look whole, its count rises.
    # A box that can miss costs more than any budget by its sixtieth look's end, so counts stay below sixty.
    counts = [0 for box in boxes]
    while True:
        worth = chance_for(boxes, budget, counts)
        ends = [chance(box, count + 1) for box, count in zip(boxes, counts)]
        end = least_chance(ends)
        if not below(end, worth):
            return (counts, worth)
        counts = [count + 1 if one == end else count for count, one in zip(counts, ends)]


def look_shares(boxes, counts, worth):
    # Of all plays, the share in which a box gets one look more than its count.
    return [over(minus(worth, chance(box, count)), gain(box, count)) for box, count in zip(boxes, counts)]


def mix_of(boxes, counts, worth):
    # The shares are laid end to end round a ring: so at each point nearly as many boxes have their look more, and
    # with all costs 1 no plan costs more than the average; and there are no more arcs than boxes and one.
    lengths, ring = common(look_shares(boxes, counts, worth))
    starts = [0]
    for length in lengths:
        starts.append((starts[-1] + length) % ring)
    edges = sorted(set(starts))
    widths = [behind - ahead for ahead, behind in zip(edges, edges[1:] + [ring])]
    mix = []
    for edge, weight in zip(edges, lowest(widths)):
        more = [(edge - start) % ring < length for start, length in zip(starts, lengths)]
        plan = [count + 1 if one else count for count, one in zip(counts, more)]
        mix.append((plan, weight))
    return mix


def paper_of(boxes, counts):
    weights, bottom = common(fair_weights(boxes, counts))
    shared = shared_divisor(weights)
    return ([weight // shared for weight in weights], ratio(bottom, shared), list(counts))


def sure_answer(boxes):
    ones = [1 for box in boxes]
    return ((1, 1), [(list(ones), 1)], (list(ones), (0, 1), list(ones)))


def is_sure(boxes, budget):
    return all([hits == of for cost, hits, of in boxes]) and sum([box[0] for box in boxes]) <= budget


def budget_worth(boxes, budget):
    look_boxes(boxes)
    look_budget(budget)
    if is_sure(boxes, budget):
        return sure_answer(boxes)
    counts, worth = counts_and_worth(boxes, budget)
    return (worth, mix_of(boxes, counts, worth), paper_of(boxes, counts))
