"""Plays: a number picks a plan of a paper, and what is paid on average."""

from hideworth.checks import is_whole
from hideworth.errors import NoPlay
from hideworth.ratios import ratio


def whole_of(paper):
    return sum([weight for plan, weight in paper])


def played(paper, number):
    if is_whole(number) and number >= 0:
        left = number
        for plan, weight in paper:
            if left < weight:
                return list(plan)
            left = left - weight
    raise NoPlay("a play's number is from 0 to one less than the paper's whole")


def average(numbers, weights):
    return ratio(sum([weight * number for weight, number in zip(weights, numbers)]), sum(weights))
