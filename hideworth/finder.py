"""The worth of a small web, with a paper of each side."""

from hideworth.least import least_numbers, plan_against
from hideworth.pivots import solved
from hideworth.steps import steps_by_standing
from hideworth.webs import look_small, shortest_roads, whole_costs


def plan_sum(weights, costs):
    return sum([weight * cost for weight, cost in zip(weights, costs)])


def web_worth(web, kind):
    look_small(web, kind)
    lengths = shortest_roads(web)
    steps = steps_by_standing(lengths, kind)
    plan = plan_against(steps, kind, [1 for place in range(web[0])])
    plans = []
    rows = []
    # The worth of the table of some plans is told by weights; while a plan pays less against these it is none of
    # the table's yet and comes to them. There are only so many plans that go in no ring.
    while True:
        plans.append(plan)
        rows.append(whole_costs(web[0], lengths, kind, plan))
        worth, shares, weights = solved(rows)
        plan = plan_against(steps, kind, weights)
        paid = plan_sum(weights, whole_costs(web[0], lengths, kind, plan))
        if paid * worth[1] >= worth[0] * sum(weights):
            break
    seeker = [(one, share) for one, share in zip(plans, shares) if share > 0]
    return (worth, seeker, (weights, least_numbers(steps, weights)))
