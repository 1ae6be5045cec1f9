"""Ways to ask that check, beside each answer, what holds for all of them."""

import copy
import math
from fractions import Fraction

from hideworth import errors

NAMES = (
    "NoNumber", "NoTable", "NoBoxes", "NoBudget", "NoOrder", "NoWeights", "TooGreat", "NoKind", "NoTree", "NoTurns",
    "NoPlay", "NoRow", "NoName", "NoRoad", "NoWeb", "NoPlan", "NoText", "NoPaper",
)


def form(thing):
    """The thing with its kinds, as 1 == True, and nothing of it that can change."""
    if isinstance(thing, (list, tuple)):
        return (type(thing), tuple(form(part) for part in thing))
    if isinstance(thing, dict):
        return (dict, tuple((form(key), form(value)) for key, value in thing.items()))
    return (type(thing), thing)


def lists_in(thing):
    """All lists and dicts in it, each as often as it stands there."""
    found = [thing] if isinstance(thing, (list, dict)) else []
    parts = thing if isinstance(thing, (list, tuple)) else thing.values() if isinstance(thing, dict) else ()
    for part in parts:
        found.extend(lists_in(part))
    return found


def spoil(thing):
    for part in lists_in(thing):
        part.clear()


def asked(test, call, *things):
    """The answer, when all that point 2 says of it holds."""
    before = form(things)
    answer = call(*things)
    test.assertEqual(form(things), before, "what was handed in was changed")
    kept = copy.deepcopy(answer)
    told = [id(part) for part in lists_in(answer)]
    test.assertEqual(len(told), len(set(told)), "a list stands at two places")
    given = {id(part) for part in lists_in(things)}
    test.assertFalse(given & set(told), "what was handed in is told")
    own = copy.deepcopy(things)
    second = call(*own)
    test.assertEqual(form(second), form(kept), "asked the same, it told something else")
    spoil(own)
    test.assertEqual(form(second), form(kept), "what was handed in hangs on in the answer")
    spoil(answer)
    test.assertEqual(form(second), form(kept), "two answers share a list")
    third = call(*things)
    test.assertEqual(form(third), form(kept), "an answer that was changed changes a later one")
    return third


def refused(test, name, call, *things):
    """The error, when it is of this name and of no other, and nothing was changed."""
    before = form(things)
    for base in (getattr(errors, name), errors.HideError, ValueError):
        try:
            call(*things)
        except base as error:
            caught = error
        else:
            test.fail(f"not refused with {name}")
    test.assertEqual(form(things), before, "what was handed in was changed")
    for other in NAMES:
        test.assertEqual(isinstance(caught, getattr(errors, other)), other == name)
    return caught


def numbers_in(thing):
    if isinstance(thing, (list, tuple)):
        return [number for part in thing for number in numbers_in(part)]
    return [thing]


def assert_fraction(test, thing):
    """It is a fraction in lowest terms; told as one of Python's own."""
    test.assertIs(type(thing), tuple)
    test.assertEqual([type(number) for number in thing], [int, int])
    test.assertGreaterEqual(thing[1], 1)
    test.assertEqual(math.gcd(*thing), 1)
    return Fraction(*thing)


def assert_paper(test, paper):
    """A list of tuples (list, weight), one or more, weights from 1 on."""
    test.assertIs(type(paper), list)
    test.assertGreater(len(paper), 0)
    for share in paper:
        test.assertEqual((type(share), len(share)), (tuple, 2))
        test.assertEqual([type(part) for part in share], [list, int])
        test.assertGreaterEqual(share[1], 1)
