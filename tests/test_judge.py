import copy
import random
import unittest

from hideworth.judge import judged, standings
from hideworth.ratios import minus, plus
from hideworth.tables import table_worth
from tests.apart import (DOUBLE, PATH, RING, SQUARE, STAR, TREE, all_joined, costs_apart, is_plain, plans_apart,
                         some_web, standings_apart, steps_apart, table_apart)
from tests.asking import asked, refused
from tests.test_webs import LONG_PATH, NO_KINDS, NO_WEBS, ODD_KINDS

FIRST = ((0,), 0)
ALONE = (1, [])
BOTH = ("walk", "spread")
GREAT = ((8, [(0, k, 1) for k in range(1, 8)]), LONG_PATH, all_joined(8))
ODD = (None, True, False, 0, 1, -1, "", "walk", (), [], {}, (0,), [0], [0, 1], (0, 1), {0: 1}, [None], ([],), ([], {}))

# Papers for the worth 3/2 of RING, worked out by hand.
WALKS = [([0, 1, 2], 1), ([0, 2, 1], 1)]
SPREADS = [([(0, 1), (1, 2)], 1), ([(0, 2), (0, 1)], 1)]
WALK_TABLE = {
    ((0,), 0): 3,
    ((0, 1), 0): 1, ((0, 1), 1): 1,
    ((0, 1, 2), 0): 0, ((0, 1, 2), 1): 0, ((0, 1, 2), 2): 0,
    ((0, 2), 0): 1, ((0, 2), 2): 1,
}
SPREAD_TABLE = {((0,), 0): 3, ((0, 1), 0): 1, ((0, 1, 2), 0): 0, ((0, 2), 0): 1}
PAPERS = {"walk": (WALKS, ([0, 1, 1], WALK_TABLE)), "spread": (SPREADS, ([0, 1, 1], SPREAD_TABLE))}


def ring(kind):
    """New papers for the ring: the seeker's, the hider's weights and its table."""
    seeker, (weights, table) = copy.deepcopy(PAPERS[kind])
    return seeker, weights, table


def right_papers(web, kind):
    """For a web of at most four places: by the table of its few best plans."""
    plans = plans_apart(web, kind)
    worth, rows, columns = table_worth([costs_apart(web, kind, plan) for plan in plans])
    seeker = [(plan, weight) for plan, weight in zip(plans, rows) if weight]
    return worth, seeker, (columns, table_apart(web, kind, columns))


def is_share_apart(web, kind, share):
    return (type(share) is tuple and len(share) == 2 and costs_apart(web, kind, share[0]) is not None
            and is_plain(share[1]) and share[1] > 0)


def number_of(table, standing):
    """The number by a key that is of the same kinds, too."""
    for key, number in table.items():
        if repr(key) == repr(standing):
            return number if is_plain(number) else None
    return None


def is_number_right(web, kind, weights, table, standing):
    number = number_of(table, standing)
    steps = [(length, number_of(table, behind)) for length, behind in steps_apart(web, kind, standing)]
    if number is None or None in [behind for length, behind in steps]:
        return False
    rest = sum(weight for place, weight in enumerate(weights) if place not in standing[0])
    bounds = [length * rest + behind for length, behind in steps] if rest else [0]
    return number <= min(bounds)


def judged_apart(web, kind, worth, seeker, hider):
    if type(seeker) is not list or not seeker:
        return ("plan", 0)
    for k, share in enumerate(seeker):
        if not is_share_apart(web, kind, share):
            return ("plan", k)
    whole = sum(weight for plan, weight in seeker)
    for j in range(web[0]):
        if sum(weight * costs_apart(web, kind, plan)[j] for plan, weight in seeker) * worth[1] > worth[0] * whole:
            return ("place", j)
    if type(hider) is not tuple or len(hider) != 2 or type(hider[0]) is not list or type(hider[1]) is not dict:
        return ("weights",)
    weights, table = hider
    if len(weights) != web[0] or not all(is_plain(one) and one >= 0 for one in weights) or not any(weights):
        return ("weights",)
    for standing in standings_apart(web, kind):
        if not is_number_right(web, kind, weights, table, standing):
            return ("standing",) + standing
    return None if table[FIRST] * worth[1] >= worth[0] * sum(weights) else ("first",)


class Standings(unittest.TestCase):
    def told(self, web, kind):
        told = asked(self, standings, web, kind)
        self.assertIsInstance(told, list)
        for standing in told:
            self.assertEqual((type(standing), len(standing), type(standing[0])), (tuple, 2, tuple))
            self.assertTrue(all(is_plain(number) for number in standing[0] + standing[1:]))
        return told

    def test_one_place(self):
        for kind in BOTH:
            self.assertEqual(self.told(ALONE, kind), [FIRST])

    def test_a_tree(self):
        self.assertEqual(self.told(PATH, "walk"), [
            ((0,), 0), ((0, 1), 0), ((0, 1), 1), ((0, 1, 2), 0), ((0, 1, 2), 1), ((0, 1, 2), 2)])
        self.assertEqual(self.told(PATH, "spread"), [((0,), 0), ((0, 1), 0), ((0, 1, 2), 0)])
        self.assertEqual(self.told(STAR, "spread"), [((0,), 0), ((0, 1), 0), ((0, 1, 2), 0), ((0, 2), 0)])
        self.assertEqual(self.told((3, [(0, 2, 1), (2, 1, 1)]), "walk"), [
            ((0,), 0), ((0, 1, 2), 0), ((0, 1, 2), 1), ((0, 1, 2), 2), ((0, 2), 0), ((0, 2), 2)])

    def test_a_ring(self):
        self.assertEqual(self.told(RING, "walk"), sorted(WALK_TABLE))
        self.assertEqual(self.told(RING, "spread"), sorted(SPREAD_TABLE))
        self.assertEqual(self.told(SQUARE, "spread"), [
            ((0,), 0), ((0, 1), 0), ((0, 1, 2), 0), ((0, 1, 2, 3), 0), ((0, 1, 3), 0), ((0, 2, 3), 0), ((0, 3), 0)])

    def test_all_joined(self):
        # Of the other six each is come to or not; on average four places are, at each of which a walk may stand.
        self.assertEqual(len(self.told(all_joined(7), "spread")), 64)
        self.assertEqual(len(self.told(all_joined(7), "walk")), 64 * 4)

    def test_as_told_apart(self):
        chance = random.Random(11)
        for turn in range(25):
            web = some_web(chance, chance.randint(1, 7), chance.choice((0, 1, 4)))
            for kind in BOTH:
                with self.subTest(web=web, kind=kind):
                    self.assertEqual(self.told(web, kind), standings_apart(web, kind))

    def test_double_roads_are_one_way(self):
        self.assertEqual(self.told(DOUBLE, "walk"), self.told(PATH, "walk"))


class Right(unittest.TestCase):
    def let_by(self, web, kind, worth, seeker, hider):
        self.assertIsNone(asked(self, judged, web, kind, worth, seeker, hider))

    def test_one_place(self):
        self.let_by(ALONE, "walk", (0, 1), [([0], 1)], ([1], {FIRST: 0}))
        self.let_by(ALONE, "spread", (0, 1), [([], 7)], ([3], {FIRST: 0}))

    def test_two_places(self):
        web = (2, [(0, 1, 9), (1, 0, 5)])
        table = {FIRST: 10, ((0, 1), 0): 0, ((0, 1), 1): 0}
        self.let_by(web, "walk", (5, 1), [([0, 1], 1), ([0, 1, 0], 3)], ([0, 2], table))
        self.let_by(web, "spread", (5, 1), [([(0, 1)], 4)], ([0, 2], table))

    def test_a_star_walked(self):
        table = {((0,), 0): 4, ((0, 1), 0): 1, ((0, 1), 1): 2, ((0, 2), 0): 1, ((0, 2), 2): 2,
                 ((0, 1, 2), 0): 0, ((0, 1, 2), 1): 0, ((0, 1, 2), 2): 0}
        self.let_by(STAR, "walk", (2, 1), [([0, 1, 0, 2], 1), ([0, 2, 0, 1], 1)], ([0, 1, 1], table))

    def test_a_ring(self):
        for kind in BOTH:
            seeker, weights, table = ring(kind)
            self.let_by(RING, kind, (3, 2), seeker, (weights, table))

    def test_numbers_may_be_lower_than_the_least(self):
        # Where no way that counts leads through a standing, its number may be as low as one likes.
        seeker, weights, table = ring("walk")
        table[((0, 1, 2), 0)] = -10 ** 40
        table[((0, 1), 0)] = 0
        table[((0, 2), 0)] = 0
        self.let_by(RING, "walk", (3, 2), seeker, (weights, table))
        table[((0, 2), 0)] = -1
        self.assertEqual(judged(RING, "walk", (3, 2), seeker, (weights, table)), ("standing", (0, 2), 2))

    def test_weights_of_whatever_size(self):
        high = 10 ** 60
        seeker, weights, table = ring("walk")
        seeker = [(plan, high) for plan, weight in seeker]
        weights = [0, high, high]
        table = {standing: number * high for standing, number in table.items()}
        self.let_by(RING, "walk", (3, 2), seeker, (weights, table))
        table[FIRST] -= 1
        self.assertEqual(judged(RING, "walk", (3, 2), seeker, (weights, table)), ("first",))
        seeker[0] = ([0, 1, 2], high + 1)
        self.assertEqual(judged(RING, "walk", (3, 2), seeker, (weights, table)), ("place", 2))

    def test_plans_may_stand_twice(self):
        seeker, weights, table = ring("walk")
        self.let_by(RING, "walk", (3, 2), seeker + seeker, (weights, table))

    def test_what_else_the_table_has(self):
        for kind in BOTH:
            seeker, weights, table = ring(kind)
            more = {None: 1, "first": "x", (): None, 0: 10 ** 50, (0,): 1, ((1,), 1): 99, ((0, 2, 1), 0): 99,
                    ((0, 1, 2, 3), 0): 99, ((0, 1), 2): 99, ((0,), 1): 99, ((0,), 0, 0): 99, ((), 0): 99, True: 5,
                    ((0, 0), 0): 99, ("0", 0): 1, ((0,), None): 1, ((None,), 0): 1, (0, 0): 99, ((0, (0,)), 0): 1}
            table.update(more)
            self.let_by(RING, kind, (3, 2), seeker, (weights, table))
            self.let_by(RING, kind, (3, 2), seeker, (weights, {**more, **table}))

    def test_small_webs(self):
        chance = random.Random(12)
        webs = [ALONE, PATH, STAR, RING, DOUBLE, SQUARE, all_joined(4)]
        webs += [some_web(chance, chance.randint(1, 4), chance.randint(0, 4)) for turn in range(25)]
        for web in webs:
            for kind in BOTH:
                worth, seeker, hider = right_papers(web, kind)
                with self.subTest(web=web, kind=kind):
                    self.let_by(web, kind, worth, seeker, hider)
                    self.other_worths_are_not_let_by(web, kind, worth, seeker, hider)

    def other_worths_are_not_let_by(self, web, kind, worth, seeker, hider):
        for little in ((1, 1), (1, 10 ** 30)):
            answer = judged(web, kind, minus(worth, little), seeker, hider)
            self.assertEqual(answer[0], "place")
            self.assertEqual(answer, judged_apart(web, kind, minus(worth, little), seeker, hider))
            self.assertEqual(judged(web, kind, plus(worth, little), seeker, hider), ("first",))


class Wrong(unittest.TestCase):
    def found(self, answer, kind, worth, seeker, hider, web=RING):
        told = asked(self, judged, web, kind, worth, seeker, hider)
        self.assertEqual(told, answer)
        self.assertEqual([type(part) for part in told], [type(part) for part in answer])
        self.assertEqual(judged_apart(web, kind, worth, seeker, hider), answer)

    def test_papers_that_are_no_list_or_empty(self):
        for kind in BOTH:
            seeker, weights, table = ring(kind)
            for paper in (None, True, 0, 1, "", "plan", (), tuple(seeker), {}, {0: seeker[0]}, []):
                self.found(("plan", 0), kind, (3, 2), paper, (weights, table))
                self.found(("plan", 0), kind, (0, 1), paper, None)

    def test_a_tuple_that_is_none(self):
        for kind in BOTH:
            seeker, weights, table = ring(kind)
            plan = seeker[0][0]
            shares = [*ODD, plan, list(seeker[0]), (plan,), (plan, 1, 1), (1, plan), (tuple(plan), 1), {0: plan, 1: 1}]
            shares += [(plan, weight) for weight in (0, -1, True, None, "1", [1], (1, 1), {}, -10 ** 40)]
            shares += [(other, 1) for other in (None, 0, 1, True, "", "walk", {}, {0: 1}, (), (0, 1, 2), [[0, 1, 2]])]
            for k in range(3):
                for share in shares:
                    paper = seeker + seeker[:1]
                    paper[k] = share
                    with self.subTest(kind=kind, share=share, k=k):
                        self.found(("plan", k), kind, (3, 2), paper, (weights, table))

    def test_the_first_of_several_tuples(self):
        seeker, weights, table = ring("walk")
        self.found(("plan", 1), "walk", (0, 1), [seeker[0], None, seeker[1], (None, 0)], None)

    def test_a_plan_that_is_none(self):
        plans = {
            "walk": ([], [0], [0, 1], [1, 0, 2], [0, 0, 1, 2], [0, 1, 2, 3], [0, 1, 2, -1], [0, True, 2], [False, 1, 2],
                     [0, 1, None, 2], [0, 1, 2, "0"], [0, 1, 2, [0]], [0, 1, 2, {}], [(0, 1), (1, 2)], [0, (0, 1), 2]),
            "spread": ([], [(0, 1)], [(1, 2), (0, 1)], [(0, 1), (0, 1)], [(0, 1), (1, 2), (2, 0)], [(0, 1), (1, 3)],
                       [(0, True), (1, 2)], [(False, 1), (1, 2)], [(0, 1), None], [(0, 1), [1, 2]], [(0, 1), (1, [2])],
                       [(0, 1), ([1], 2)], [(0, 1), (1, 2, 0)], [(0, 1), (2,)], [(0, 1), "12"], [0, 1, 2], [{}, ()]),
        }
        for kind in BOTH:
            seeker, weights, table = ring(kind)
            for plan in plans[kind]:
                with self.subTest(plan=plan):
                    self.found(("plan", 1), kind, (3, 2), [seeker[0], (plan, 1), seeker[1]], (weights, table))

    def test_a_plan_of_the_other_kind(self):
        self.found(("plan", 0), "walk", (3, 2), SPREADS, PAPERS["spread"][1])
        self.found(("plan", 0), "spread", (3, 2), WALKS, PAPERS["walk"][1])

    def test_a_place(self):
        for kind, one, other in (("walk", [0, 1, 2], [0, 2, 1]), ("spread", *[plan for plan, weight in SPREADS])):
            hider = PAPERS[kind][1]
            self.found(("place", 0), kind, (-1, 1), [(one, 1), (other, 1)], hider)
            self.found(("place", 1), kind, (0, 1), [(one, 1), (other, 1)], hider)
            self.found(("place", 1), kind, (3, 2), [(one, 1), (other, 2)], hider)
            self.found(("place", 2), kind, (3, 2), [(one, 2), (other, 1)], hider)
            self.found(("place", 2), kind, (3, 2), [(one, 10 ** 30), (other, 10 ** 30 - 1)], None)
            self.found(("place", 1), kind, (3 * 10 ** 30 - 1, 2 * 10 ** 30), [(one, 1), (other, 1)], None)
            self.found(("place", 2), kind, (199, 100), [(one, 1)], None)

    def test_weights(self):
        for kind in BOTH:
            seeker, weights, table = ring(kind)
            hiders = [*ODD, [weights, table], (weights,), (weights, table, 1), (table, weights), weights, table]
            hiders += [(other, table) for other in ODD if other != [0, 1]]
            hiders += [(weights, other) for other in ODD if type(other) is not dict]
            hiders += [(other, table) for other in ([0, 1], [0, 0, 0], [0, 1, 1, 0], (0, 1, 1), [0, 1, -1], [-1, 1, 1],
                                                    [0, 1, True], [False, 1, 1], [0, 1, None], [0, "1", 1], [0, [1], 1],
                                                    [0, 1, (1, 1)], "011", {0: 0, 1: 1, 2: 1})]
            for hider in hiders:
                with self.subTest(kind=kind, hider=hider):
                    self.found(("weights",), kind, (3, 2), seeker, hider)

    def test_a_standing_that_lacks_its_number(self):
        # A standing from which a step leads there may stand ahead of it.
        first = {
            ((0,), 0): FIRST,
            ((0, 1), 0): ((0, 1), 0), ((0, 1), 1): FIRST,
            ((0, 1, 2), 0): ((0, 1, 2), 0), ((0, 1, 2), 1): ((0, 1, 2), 0), ((0, 1, 2), 2): ((0, 1), 0),
            ((0, 2), 0): ((0, 2), 0), ((0, 2), 2): FIRST,
        }
        seeker, weights, table = ring("walk")
        for standing in table:
            for odd in (None, True, False, "3", "", [], [0], (), (0, 1), {}):
                self.found(("standing", *first[standing]), "walk", (3, 2), seeker, (weights, {**table, standing: odd}))
            less = {key: number for key, number in table.items() if key != standing}
            self.found(("standing", *first[standing]), "walk", (3, 2), seeker, (weights, less))
        self.found(("standing", (0,), 0), "walk", (3, 2), seeker, (weights, {}))

    def test_a_standing_of_a_spread_that_lacks_its_number(self):
        first = {FIRST: FIRST, ((0, 1), 0): FIRST, ((0, 1, 2), 0): ((0, 1), 0), ((0, 2), 0): FIRST}
        seeker, weights, table = ring("spread")
        for standing in table:
            less = {key: number for key, number in table.items() if key != standing}
            self.found(("standing", *first[standing]), "spread", (3, 2), seeker, (weights, less))

    def test_a_number_behind_is_asked_for_where_the_rest_is_0_too(self):
        # No step leads from fewer places to the middle one of all three, as it was gone through.
        table = {((0,), 0): 7, ((0, 1), 0): 5, ((0, 1), 1): 5, ((0, 1, 2), 0): 0, ((0, 1, 2), 2): 0}
        self.found(("standing", (0, 1, 2), 0), "walk", (7, 1), [([0, 1, 2], 1)], ([0, 0, 1], table), PATH)

    def test_keys_of_truths_are_no_standings(self):
        seeker, weights, table = ring("walk")
        for standing, like in ((FIRST, ((False,), 0)), (FIRST, ((0,), False)), (((0, 1), 1), ((0, True), 1)),
                               (((0, 1), 1), ((0, 1), True))):
            keys = {like if key == standing else key: number for key, number in table.items()}
            self.found(("standing", (0,), 0), "walk", (3, 2), seeker, (weights, keys))

    def test_a_number_too_great(self):
        # By one more, at each standing: it is wrong there, as each is the least.
        for kind in BOTH:
            seeker, weights, table = ring(kind)
            for standing in table:
                for more in (1, 10 ** 40):
                    greater = {**table, standing: table[standing] + more}
                    self.found(("standing", *standing), kind, (3, 2), seeker, (weights, greater))

    def test_a_number_too_small_behind(self):
        # The first standing ahead of it from which a step leads there is wrong.
        ahead = {((0, 1), 1): FIRST, ((0, 1, 2), 2): ((0, 1), 0), ((0, 2), 2): FIRST}
        seeker, weights, table = ring("walk")
        for standing, first in ahead.items():
            self.found(("standing", *first), "walk", (3, 2), seeker,
                       (weights, {**table, standing: table[standing] - 1}))

    def test_the_first_of_several_standings(self):
        seeker, weights, table = ring("walk")
        order = sorted(table)
        for k, standing in enumerate(order):
            # A number that is greater behind a step lets a greater one by ahead of it.
            greater = {key: number + (key in order[k:]) for key, number in table.items()}
            told = judged(RING, "walk", (3, 2), seeker, (weights, greater))
            self.assertEqual(told, judged_apart(RING, "walk", (3, 2), seeker, (weights, greater)))

    def test_the_order_is_that_of_tuples_and_then_of_here(self):
        seeker, weights, table = ring("walk")
        greater = {key: number + 10 ** 9 for key, number in table.items() if key[0] in ((0, 1, 2), (0, 2))}
        # (0, 1, 2) stands ahead of (0, 2), though it has more places.
        self.found(("standing", (0, 1, 2), 0), "walk", (3, 2), seeker, (weights, {**table, **greater}))
        greater = {key: number + 10 ** 9 for key, number in table.items() if key in (((0, 2), 2), ((0, 2), 0))}
        self.found(("standing", (0, 2), 0), "walk", (3, 2), seeker, (weights, {**table, **greater}))

    def test_a_rest_of_0_ahead_of_the_end(self):
        # With no weight at place 2 nothing is paid behind place 1: a number above 0 is wrong there.
        seeker = [([0, 1, 2], 1)]
        table = {((0,), 0): 2, ((0, 1), 0): 0, ((0, 1), 1): 0, ((0, 1, 2), 0): 0, ((0, 1, 2), 1): 0, ((0, 1, 2), 2): 0}
        self.assertEqual(judged(PATH, "walk", (7, 1), seeker, ([0, 1, 0], table)), ("first",))
        for standing in (((0, 1), 0), ((0, 1), 1), ((0, 1, 2), 1)):
            self.found(("standing", *standing), "walk", (7, 1), seeker, ([0, 1, 0], {**table, standing: 1}), PATH)
        # A number below 0 behind it changes nothing there.
        self.found(("first",), "walk", (7, 1), seeker, ([0, 1, 0], {**table, ((0, 1, 2), 2): -99}), PATH)

    def test_first(self):
        for kind in BOTH:
            seeker, weights, table = ring(kind)
            self.found(("first",), kind, (3, 2), seeker, (weights, {**table, FIRST: 2}))
            self.found(("first",), kind, (2, 1), seeker, (weights, table))
            self.found(("first",), kind, (3 * 10 ** 30 + 1, 2 * 10 ** 30), seeker, (weights, table))
            self.found(("first",), kind, (10 ** 50, 1), seeker, (weights, table))
            self.found(("first",), kind, (3, 2), seeker, ([1, 1, 1], table))

    def test_the_first_thing_of_several(self):
        for kind in BOTH:
            seeker, weights, table = ring(kind)
            one = seeker[:1]
            self.found(("plan", 2), kind, (0, 1), seeker + [None], None)
            self.found(("place", 1), kind, (0, 1), seeker, None)
            self.found(("place", 2), kind, (3, 2), one, ([0, 0, 0], {}))
            self.found(("weights",), kind, (5, 1), seeker, ([0, 0, 0], {}))
            self.found(("standing", (0,), 0), kind, (5, 1), seeker, (weights, {}))


class Damaged(unittest.TestCase):
    def damaged(self, chance, web, kind, worth, seeker, hider):
        seeker, (weights, table) = copy.deepcopy((seeker, hider))
        keys = list(table)
        for turn in range(chance.choice((1, 1, 2))):
            way = chance.randrange(8)
            k = chance.randrange(len(seeker))
            if way == 0:
                table[chance.choice(keys)] = chance.choice((None, True, "", -1, 0, 1, 10 ** 9))
            elif way == 1:
                table.pop(chance.choice(keys), None)
            elif way in (2, 3):
                for turn in range(chance.choice((1, 3))):
                    table[chance.choice(keys)] = chance.randint(-2, 30)
            elif way == 4:
                weights[chance.randrange(web[0])] = chance.choice((None, -1, 0, 1, 2, 10 ** 30))
            elif way == 5:
                seeker[k] = (seeker[k][0], chance.choice((0, 1, 5, True, None)))
            elif way == 6:
                seeker[k][0].insert(chance.randrange(len(seeker[k][0]) + 1), chance.choice((0, 1, 2, (0, 1), (1, 2))))
            else:
                worth = chance.choice((plus, minus))(worth, (1, chance.choice((1, 7, 10 ** 20))))
        return worth, seeker, (weights, table)

    def test_as_told_apart(self):
        chance = random.Random(13)
        seen = {}
        webs = [PATH, STAR, RING, SQUARE, DOUBLE] + [some_web(chance, 4, chance.randint(0, 3)) for turn in range(6)]
        for web in webs:
            for kind in BOTH:
                papers = right_papers(web, kind)
                for turn in range(40):
                    worth, seeker, hider = self.damaged(chance, web, kind, *papers)
                    told = judged(web, kind, worth, seeker, hider)
                    name = told and told[0]
                    seen[name] = seen.get(name, 0) + 1
                    with self.subTest(web=web, kind=kind, worth=worth, seeker=seeker, hider=hider):
                        self.assertEqual(told, judged_apart(web, kind, worth, seeker, hider))
        self.assertEqual(set(seen), {None, "plan", "place", "weights", "standing", "first"})
        self.assertGreater(min(seen.values()), 10)


class Refusals(unittest.TestCase):
    def refused_by_each(self, name, web, kind):
        error = refused(self, name, standings, web, kind)
        for papers in (([([0], 1)], ([1], {FIRST: 0})), ([], None), (None, ([], {}))):
            again = refused(self, name, judged, web, kind, (1, 1), *papers)
            self.assertEqual(getattr(again, "road", None), getattr(error, "road", None))
        return error

    def test_no_web_ahead_of_all_else(self):
        for web, road in NO_WEBS:
            for kind in BOTH + ("tree",):
                with self.subTest(web=web, kind=kind):
                    self.assertEqual(self.refused_by_each("NoWeb", web, kind).road, road)

    def test_too_great_ahead_of_the_kind(self):
        for web in GREAT:
            for kind in BOTH + ("tree", ""):
                self.refused_by_each("TooGreat", web, kind)

    def test_seven_places_are_not_too_great(self):
        for web in (all_joined(7), (7, [(k, k + 1, 1) for k in range(6)])):
            for kind in BOTH:
                self.assertEqual(judged(web, kind, (1, 1), [], None), ("plan", 0))
                self.assertEqual(standings(web, kind)[0], FIRST)

    def test_no_kind(self):
        for kind in NO_KINDS + ODD_KINDS:
            for web in (ALONE, RING, TREE):
                self.refused_by_each("NoKind", web, kind)


if __name__ == "__main__":
    unittest.main()
