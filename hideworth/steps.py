"""Standings of a plan on its way over a small web, and the steps between them."""

FIRST = ((0,), 0)


def is_step(kind, standing, a, b):
    places, here = standing
    if kind == "walk":
        return a == here
    return a in places and b not in places


def behind_step(kind, standing, b):
    places = tuple(sorted(set(standing[0] + (b,))))
    return (places, b if kind == "walk" else 0)


def steps_from(lengths, kind, standing):
    # Tuples (a, b, length, standing behind): the step goes the road from a to b.
    steps = []
    for ends, length in lengths.items():
        a, b = ends
        if is_step(kind, standing, a, b):
            steps.append((a, b, length, behind_step(kind, standing, b)))
    return steps


def steps_by_standing(lengths, kind):
    # All standings are those that steps lead to; told in the order of places' tuples and then of here.
    found = {}
    fresh = [FIRST]
    while fresh:
        standing = fresh.pop()
        if standing not in found:
            found[standing] = steps_from(lengths, kind, standing)
            fresh.extend([behind for a, b, length, behind in found[standing]])
    return dict([(standing, found[standing]) for standing in sorted(found)])


def rest_of(weights, standing):
    return sum(weights) - sum([weights[place] for place in standing[0]])
