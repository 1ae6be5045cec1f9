"""What several stages ask of things that are handed in."""

from hideworth.ratios import divisor


def is_whole(thing):
    return isinstance(thing, int) and not isinstance(thing, bool)


def is_within(thing, least, most):
    return is_whole(thing) and least <= thing <= most


def are_weights(thing, many):
    if not isinstance(thing, list) or len(thing) != many:
        return False
    return all([is_whole(weight) and weight >= 0 for weight in thing]) and sum(thing) > 0


def is_fraction(thing):
    if not isinstance(thing, tuple) or len(thing) != 2:
        return False
    if not is_whole(thing[0]) or not is_whole(thing[1]):
        return False
    return thing[1] >= 1 and divisor(thing[0], thing[1]) == 1
