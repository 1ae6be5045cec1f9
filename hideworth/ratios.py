"""Fractions: tuples (top, bottom) of whole numbers in lowest terms, bottom from 1 on."""

from hideworth.errors import NoNumber


def divisor(one, other):
    one = abs(one)
    other = abs(other)
    while other:
        rest = one % other
        one = other
        other = rest
    return one


def ratio(top, bottom):
    if bottom == 0:
        raise NoNumber("a fraction's bottom is not 0")
    shared = divisor(top, bottom)
    if bottom < 0:
        shared = -shared
    return (top // shared, bottom // shared)


def plus(one, other):
    return ratio(one[0] * other[1] + other[0] * one[1], one[1] * other[1])


def minus(one, other):
    return ratio(one[0] * other[1] - other[0] * one[1], one[1] * other[1])


def times(one, other):
    return ratio(one[0] * other[0], one[1] * other[1])


def over(one, other):
    return ratio(one[0] * other[1], one[1] * other[0])


def below(one, other):
    return one[0] * other[1] < other[0] * one[1]


def common(fractions):
    # Papers hold whole weights alone, so fractions are told as tops over one least shared bottom.
    bottom = 1
    for fraction in fractions:
        bottom = bottom // divisor(bottom, fraction[1]) * fraction[1]
    return ([fraction[0] * (bottom // fraction[1]) for fraction in fractions], bottom)


def shared_divisor(numbers):
    shared = 0
    for number in numbers:
        shared = divisor(shared, number)
    return shared


def lowest(weights):
    # The same shares in the least whole numbers.
    shared = shared_divisor(weights)
    return [weight // shared for weight in weights]
