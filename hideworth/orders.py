"""Orders of looks: what is paid on average till a look finds, and the orders by which it is least."""

from hideworth.boxes import is_plan, look_boxes, missed, power
from hideworth.checks import are_weights, is_within
from hideworth.errors import NoOrder, NoPlan, NoWeights
from hideworth.ratios import ratio


def look_plan(boxes, weights, plan):
    look_boxes(boxes)
    if not are_weights(weights, len(boxes)):
        raise NoWeights("weights are whole numbers from 0 on, one for each box, not all 0")
    if not is_plan(plan, boxes):
        raise NoPlan(-1)


def is_order(thing, plan):
    if not isinstance(thing, list) or not all([is_within(k, 0, len(plan) - 1) for k in thing]):
        return False
    return [thing.count(k) for k in range(len(plan))] == plan


def look_order(boxes, weights, plan, order):
    look_plan(boxes, weights, plan)
    if not is_order(order, plan):
        raise NoOrder("in an order each box's number stands as often as the plan tells")


def looks_bottom(boxes, plan):
    # The chances of all looks are told as tops over one bottom, this times the sum of the weights: so they are
    # added and compared as whole numbers.
    bottom = 1
    for box, count in zip(boxes, plan):
        bottom = bottom * power(box[2], count)
    return bottom


def chance_tops(box, weight, count, bottom):
    tops = []
    for k in range(count):
        top, part = missed(box, k)
        tops.append(weight * box[1] * top * (bottom // (part * box[2])))
    return tops


def tops_by_box(boxes, weights, plan):
    bottom = looks_bottom(boxes, plan)
    return [chance_tops(box, weight, count, bottom) for box, weight, count in zip(boxes, weights, plan)]


def looks_in(boxes, weights, plan, order):
    # Cost and chance's top of each look. How often a box was looked into ahead tells which look of it this one is.
    tops = tops_by_box(boxes, weights, plan)
    done = [0 for box in boxes]
    looks = []
    for k in order:
        looks.append((boxes[k][0], tops[k][done[k]]))
        done[k] = done[k] + 1
    return looks


def awaited(boxes, weights, plan, order):
    look_order(boxes, weights, plan, order)
    bottom = looks_bottom(boxes, plan) * sum(weights)
    paid = 0
    left = bottom
    for cost, top in looks_in(boxes, weights, plan, order):
        paid = paid + cost * left
        left = left - top
    return ratio(paid, bottom)


def is_sorted(boxes, weights, plan, order):
    look_order(boxes, weights, plan, order)
    looks = looks_in(boxes, weights, plan, order)
    return all([one[1] * other[0] >= other[1] * one[0] for one, other in zip(looks, looks[1:])])


def best_order(boxes, weights, plan):
    look_plan(boxes, weights, plan)
    # Chance over cost, times the product of all costs, is a whole number. A box's looks find ever less, so by these
    # they stand in their own order.
    costs = 1
    for box in boxes:
        costs = costs * box[0]
    rates = []
    for k, tops in enumerate(tops_by_box(boxes, weights, plan)):
        rates.extend([(top * (costs // boxes[k][0]), k) for top in tops])
    return [k for rate, k in sorted(rates, reverse=True)]
