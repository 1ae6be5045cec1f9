import random
import time
import unittest

from hideworth.judge import judged, standings
from hideworth.least import best_plan, least_table
from hideworth.webs import costs_of
from tests.apart import (DOUBLE, PATH, RING, SQUARE, STAR, TREE, all_joined, costs_apart, least_apart, plans_apart,
                         some_web, standings_apart, table_apart)
from tests.asking import asked, refused
from tests.test_judge import ALONE, BOTH, FIRST, GREAT, SPREAD_TABLE, WALK_TABLE
from tests.test_webs import NO_KINDS, NO_WEBS, ODD_KINDS

# For PATH: three places.
NO_WEIGHTS = {
    "none": [],
    "too few": [0, 1],
    "too many": [0, 1, 1, 1],
    "all 0": [0, 0, 0],
    "one below 0": [0, 2, -1],
    "below 0 at place 0": [-1, 1, 1],
    "a truth": [0, 1, True],
    "a truth as 0": [False, 1, 1],
    "a text": [0, "1", 1],
    "None in it": [0, 1, None],
    "a list in it": [0, [1], 1],
    "a fraction in it": [0, 1, (1, 1)],
    "a dict in it": [0, 1, {}],
    "a tuple": (0, 1, 1),
    "None": None,
    "a number": 3,
    "a truth for all": True,
    "a text for all": "011",
    "a dict": {0: 0, 1: 1, 2: 1},
    "a list of lists": [[0, 1, 1]],
}


def some_weights(chance, many):
    weights = [chance.choice((0, 0, 1, 2, 3, chance.randint(0, 10 ** 30 - 1))) for place in range(many)]
    weights[chance.randrange(many)] += 1
    return weights


def some_cases():
    chance = random.Random(14)
    webs = [ALONE, PATH, STAR, RING, DOUBLE, SQUARE, TREE, all_joined(5, 3)]
    webs += [some_web(chance, chance.randint(1, 6), chance.choice((0, 1, 3, 6))) for turn in range(25)]
    for web in webs:
        for kind in BOTH:
            yield web, kind, some_weights(chance, web[0])
            yield web, kind, [1 if place == chance.randrange(web[0]) else 0 for place in range(web[0] - 1)] + [1]


class Least(unittest.TestCase):
    def table(self, web, kind, weights):
        table = asked(self, least_table, web, kind, weights)
        self.assertIsInstance(table, dict)
        self.assertTrue(all(type(number) is int for number in table.values()))
        self.assertEqual(sorted(map(repr, table)), sorted(map(repr, standings_apart(web, kind))))
        return table

    def plan(self, web, kind, weights):
        plan = asked(self, best_plan, web, kind, weights)
        self.assertIsInstance(plan, list)
        costs = costs_apart(web, kind, plan)
        self.assertIsNotNone(costs, "no whole plan")
        self.assertEqual(costs_of(web, kind, plan), costs)
        return sum(weight * cost for weight, cost in zip(weights, costs))


class Tables(Least):
    def test_one_place(self):
        for kind in BOTH:
            self.assertEqual(self.table(ALONE, kind, [7]), {FIRST: 0})

    def test_by_hand(self):
        self.assertEqual(self.table(RING, "walk", [0, 1, 1]), WALK_TABLE)
        self.assertEqual(self.table(RING, "spread", [0, 1, 1]), SPREAD_TABLE)
        self.assertEqual(self.table(PATH, "walk", [9, 1, 2]), {
            ((0,), 0): 16, ((0, 1), 0): 14, ((0, 1), 1): 10, ((0, 1, 2), 0): 0, ((0, 1, 2), 1): 0, ((0, 1, 2), 2): 0})
        self.assertEqual(self.table(STAR, "spread", [0, 1, 5]), {
            ((0,), 0): 7, ((0, 1), 0): 5, ((0, 1, 2), 0): 0, ((0, 2), 0): 1})

    def test_a_way_back_through_places_come_to(self):
        # From the end of one arm to the next: all the way back.
        web = (5, [(0, 1, 1), (1, 2, 10), (2, 3, 100), (0, 4, 1000)])
        table = self.table(web, "walk", [0, 0, 0, 0, 1])
        self.assertEqual(table[((0, 1, 2, 3), 3)], 1111)
        self.assertEqual(table[((0, 1, 2), 2)], 1011)
        self.assertEqual(table[((0, 1, 2, 3), 1)], 1001)

    def test_a_way_round_that_is_shorter_than_a_road(self):
        web = (3, [(0, 1, 50), (0, 2, 3), (2, 1, 4)])
        table = self.table(web, "walk", [0, 1, 0])
        self.assertEqual((table[FIRST], table[((0, 2), 0)], table[((0, 2), 2)]), (7, 7, 4))
        self.assertEqual(self.table(web, "spread", [0, 1, 0])[FIRST], 7)

    def test_0_where_the_rest_is_0(self):
        for web, kind, weights in some_cases():
            table = self.table(web, kind, weights)
            for places, here in table:
                rest = sum(weights) - sum(weights[place] for place in places)
                self.assertEqual(table[(places, here)] == 0, rest == 0)

    def test_all_weight_at_place_0(self):
        for kind in BOTH:
            self.assertEqual(set(self.table(SQUARE, kind, [5, 0, 0, 0]).values()), {0})

    def test_as_told_apart(self):
        for web, kind, weights in some_cases():
            with self.subTest(web=web, kind=kind, weights=weights):
                table = self.table(web, kind, weights)
                if web[0] <= 5:
                    self.assertEqual(table, table_apart(web, kind, weights))
                else:
                    self.assertEqual(table[FIRST], least_apart(web, kind, weights, FIRST))

    def test_seven_places_as_told_apart(self):
        chance = random.Random(15)
        for kind in BOTH:
            web = some_web(chance, 7, 5)
            weights = some_weights(chance, 7)
            self.assertEqual(self.table(web, kind, weights)[FIRST], least_apart(web, kind, weights, FIRST))

    def test_the_judge_finds_no_standing_wrong(self):
        for web, kind, weights in some_cases():
            table = self.table(web, kind, weights)
            plan = best_plan(web, kind, weights)
            high = (max(costs_of(web, kind, plan)), 1)
            told = judged(web, kind, high, [(plan, 1)], (weights, table))
            self.assertIn(told, (None, ("first",)))
            # Nothing greater is let by anywhere.
            for standing in table:
                greater = {**table, standing: table[standing] + 1}
                told = judged(web, kind, high, [(plan, 1)], (weights, greater))
                self.assertEqual(told[0], "standing")

    def test_great_numbers(self):
        web = (3, [(0, 1, 1000000), (1, 2, 999999)])
        high = 10 ** 30 - 1
        self.assertEqual(self.table(web, "walk", [high] * 3)[FIRST], high * 2999999)


class Plans(Least):
    def test_one_place(self):
        self.assertEqual(asked(self, best_plan, ALONE, "walk", [1]), [0])
        self.assertEqual(asked(self, best_plan, ALONE, "spread", [1]), [])

    def test_by_hand(self):
        self.assertEqual(asked(self, best_plan, PATH, "walk", [0, 1, 1]), [0, 1, 2])
        self.assertEqual(asked(self, best_plan, PATH, "spread", [0, 1, 1]), [(0, 1), (1, 2)])
        self.assertEqual(asked(self, best_plan, STAR, "walk", [0, 1, 2]), [0, 2, 0, 1])
        self.assertEqual(asked(self, best_plan, STAR, "spread", [0, 1, 2]), [(0, 2), (0, 1)])

    def test_whole_and_as_the_first_number(self):
        for web, kind, weights in some_cases():
            with self.subTest(web=web, kind=kind, weights=weights):
                self.assertEqual(self.plan(web, kind, weights), least_table(web, kind, weights)[FIRST])

    def test_none_has_a_lesser_sum(self):
        for web, kind, weights in some_cases():
            if web[0] <= 5:
                least = min(sum(weight * cost for weight, cost in zip(weights, costs_apart(web, kind, plan)))
                            for plan in plans_apart(web, kind))
                self.assertEqual(self.plan(web, kind, weights), least)

    def test_places_without_weight_are_come_to(self):
        web = (7, [(0, k, k) for k in range(1, 7)])
        for kind in BOTH:
            for place in range(7):
                weights = [1 if other == place else 0 for other in range(7)]
                self.assertEqual(self.plan(web, kind, weights), place)

    def test_seven_places(self):
        chance = random.Random(16)
        for turn in range(10):
            web = some_web(chance, 7, chance.choice((0, 3, 20, 114)), 1000000)
            for kind in BOTH:
                weights = some_weights(chance, 7)
                self.assertEqual(self.plan(web, kind, weights), least_table(web, kind, weights)[FIRST])

    def test_told_soon(self):
        chance = random.Random(17)
        roads = [(a, b, chance.randint(1, 1000000)) for a in range(7) for b in range(7) if a != b]
        web = (7, (roads * 3)[:120])
        start = time.process_time()
        for kind in BOTH:
            for turn in range(5):
                weights = [chance.randint(1, 10 ** 30) for place in range(7)]
                self.assertEqual(sorted(least_table(web, kind, weights)), standings(web, kind))
                best_plan(web, kind, weights)
        self.assertLess(time.process_time() - start, 10)


class Refusals(Least):
    def refused_by_each(self, name, web, kind, weights):
        errors = [refused(self, name, call, web, kind, weights) for call in (least_table, best_plan)]
        roads = [getattr(error, "road", None) for error in errors]
        self.assertEqual(roads[0], roads[1])
        return roads[0]

    def test_no_weights(self):
        for why, weights in NO_WEIGHTS.items():
            for kind in BOTH:
                with self.subTest(why, kind=kind):
                    self.refused_by_each("NoWeights", PATH, kind, weights)

    def test_weights_for_one_place(self):
        for weights in ([0], [], [1, 1], [-1], [True]):
            self.refused_by_each("NoWeights", ALONE, "walk", weights)

    def test_no_kind_ahead_of_the_weights(self):
        for kind in NO_KINDS + ODD_KINDS:
            for weights in ([0, 1, 1], [0, 0, 0], None):
                self.refused_by_each("NoKind", PATH, kind, weights)

    def test_too_great_ahead_of_the_kind(self):
        for web in GREAT:
            for kind, weights in (("walk", [1] * web[0]), ("spread", None), ("tree", [1] * web[0]), ("", [])):
                self.refused_by_each("TooGreat", web, kind, weights)

    def test_no_web_ahead_of_all_else(self):
        for web, road in NO_WEBS:
            for kind, weights in (("walk", [1]), ("tree", None)):
                self.assertEqual(self.refused_by_each("NoWeb", web, kind, weights), road)


if __name__ == "__main__":
    unittest.main()
