import random
import unittest

from hideworth.webs import costs_of, joined, look_web
from tests.apart import DOUBLE, PATH, RING, SQUARE, STAR, TREE, all_joined, road_apart, some_web
from tests.asking import asked, refused

LONG_PATH = (60, [(k, k + 1, 1) for k in range(59)])
MANY_ROADS = (5, [(k % 5, (k + 1) % 5, k + 1) for k in range(120)])
THING = 10 ** 30 - 1

# (web, road)
NO_WEBS = (
    ((0, []), -1),
    ((-1, []), -1),
    ((-THING, []), -1),
    ((61, []), -1),
    ((61, [(k, k + 1, 1) for k in range(60)]), -1),
    ((THING, []), -1),
    ((THING, [(0, THING - 1, 1)]), -1),
    ((THING, [(0, THING, 1)]), 0),
    ((2, []), -1),
    ((3, [(0, 1, 1)]), -1),
    ((3, [(1, 2, 1)]), -1),
    ((4, [(0, 1, 1), (2, 3, 1)]), -1),
    ((5, [(0, 1, 1), (2, 3, 1), (3, 4, 1), (4, 2, 1)]), -1),
    ((60, [(k, k + 1, 1) for k in range(58)]), -1),
    ((5, MANY_ROADS[1] + [(0, 1, 1)]), -1),
    ((5, MANY_ROADS[1] + MANY_ROADS[1]), -1),
    ((0, [(0, 1, 1)]), 0),
    ((-2, [(0, 1, 1)]), 0),
    ((1, [(0, 0, 1)]), 0),
    ((1, [(0, 1, 1)]), 0),
    ((2, [(0, 2, 1)]), 0),
    ((2, [(2, 0, 1)]), 0),
    ((2, [(0, 1, 1), (-1, 0, 1)]), 1),
    ((2, [(0, 1, 1), (0, -1, 1)]), 1),
    ((2, [(0, 1, 1), (1, 1, 1)]), 1),
    ((2, [(0, 1, 1), (0, 1, 0)]), 1),
    ((2, [(0, 1, 1), (0, 1, -1)]), 1),
    ((2, [(0, 1, 1), (0, 1, -THING)]), 1),
    ((2, [(0, 1, 1000000), (0, 1, 1000001)]), 1),
    ((2, [(0, 1, THING)]), 0),
    ((3, [(0, 1, 1), (1, 2, 1), (2, 2, 1), (3, 0, 1), (0, 1, 0)]), 2),
    ((3, [(0, 1, 1), (1, 2, 1), (2, 1, 0), (3, 0, 1), (0, 0, 1)]), 2),
    # A road that is none goes ahead of all else.
    ((61, [(0, 1, 1), (0, 61, 1)]), 1),
    ((4, [(0, 1, 1), (0, 4, 1)]), 1),
    ((5, MANY_ROADS[1] + [(0, 1, 0)]), 120),
    ((60, [(0, 0, 1)] * 121), 0),
)

# Things that are made of other kinds. The document leaves open what comes of them; they are no webs.
ODD_WEBS = (
    (True, []), (1, None), (1, ()), (1,), (1, [], []), [1, []], None, 1, "web", {},
)
ODD_ROADS = ((0, 1), (0, 1, 1, 1), [0, 1, 1], None, 1, "011", (False, 1, 1), (0, True, 1), (0, 1, True), ("0", 1, 1))

NO_KINDS = ("", "walks", "Walk", "WALK", "spread ", " walk", "spreads", "walk\n", "w", "walk spread", "tree")
ODD_KINDS = (None, 0, 1, True, [], ["walk"], ("walk",), {})

# (web, walk, costs)
WALKS = (
    ((1, []), [0], [0]),
    (PATH, [0, 1, 2], [0, 2, 7]),
    (PATH, [0, 1, 0, 1, 2], [0, 2, 11]),
    (PATH, [0, 1, 2, 1, 0, 1], [0, 2, 7]),
    (STAR, [0, 1, 0, 2], [0, 1, 3]),
    (STAR, [0, 2, 0, 1], [0, 3, 1]),
    (STAR, [0, 1, 0, 1, 0, 2, 0], [0, 1, 5]),
    (RING, [0, 1, 2], [0, 1, 2]),
    (RING, [0, 2, 1, 0], [0, 2, 1]),
    (RING, [0, 2, 0, 1], [0, 3, 1]),
    (DOUBLE, [0, 1, 2], [0, 4, 7]),
    (SQUARE, [0, 3, 2, 1], [0, 7, 6, 2]),
    (SQUARE, [0, 1, 2, 1, 0, 3], [0, 3, 4, 10]),
    (TREE, [0, 1, 4, 1, 2, 1, 0, 3], [0, 4, 9, 18, 5]),
    (LONG_PATH, list(range(60)), list(range(60))),
)

# (web, spread, costs)
SPREADS = (
    ((1, []), [], [0]),
    (PATH, [(0, 1), (1, 2)], [0, 2, 7]),
    (STAR, [(0, 1), (0, 2)], [0, 1, 2]),
    (STAR, [(0, 2), (0, 1)], [0, 2, 1]),
    (RING, [(0, 1), (0, 2)], [0, 1, 2]),
    (RING, [(0, 2), (2, 1)], [0, 2, 1]),
    (DOUBLE, [(0, 1), (1, 2)], [0, 4, 7]),
    (SQUARE, [(0, 3), (0, 1), (1, 2)], [0, 5, 6, 2]),
    (SQUARE, [(0, 3), (3, 2), (2, 1)], [0, 7, 6, 2]),
    (TREE, [(0, 1), (1, 4), (0, 3), (1, 2)], [0, 4, 10, 7, 5]),
    (LONG_PATH, [(k, k + 1) for k in range(59)], list(range(60))),
)

# (web, what is no walk, at)
NO_WALKS = (
    ((1, []), [], 0),
    ((1, []), [1], 0),
    ((1, []), [-1], 0),
    ((1, []), [0, 0], 1),
    ((1, []), [0, 1], 1),
    ((1, []), [(0, 0)], 0),
    (PATH, [], 0),
    (PATH, [0], 1),
    (PATH, [0, 1], 2),
    (PATH, [0, 1, 0, 1, 0], 5),
    (PATH, [1, 0, 1, 2], 0),
    (PATH, [2, 1, 0], 0),
    (PATH, [0, 0, 1, 2], 1),
    (PATH, [0, 1, 1, 2], 2),
    (PATH, [0, 2, 1], 1),
    (PATH, [0, 1, 2, 0], 3),
    (PATH, [0, 1, 2, 3], 3),
    (PATH, [0, 1, 2, -1], 3),
    (PATH, [0, 1, -2], 2),
    (PATH, [0, 1, THING], 2),
    (PATH, [0, 1, 3, 7, 2], 2),
    (PATH, [(0, 1), (1, 2)], 0),
    (PATH, [0, (0, 1), 1, 2], 1),
    (PATH, [0, 1, 2, (1, 2)], 3),
    (PATH, [0, 1, (1, 2), (3, 4)], 2),
    (SQUARE, [0, 1, 2, 0, 3], 3),
    (LONG_PATH, list(range(59)), 59),
)

# (web, what is no spread, at)
NO_SPREADS = (
    ((1, []), [(0, 0)], 0),
    ((1, []), [(0, 1)], 0),
    ((1, []), [0], 0),
    (PATH, [], 0),
    (PATH, [(0, 1)], 1),
    (PATH, [(1, 2)], 0),
    (PATH, [(1, 0)], 0),
    (PATH, [(0, 2)], 0),
    (PATH, [(1, 2), (0, 1)], 0),
    (PATH, [(0, 0), (0, 1), (1, 2)], 0),
    (PATH, [(0, 1), (0, 1)], 1),
    (PATH, [(0, 1), (1, 1)], 1),
    (PATH, [(0, 1), (1, 0)], 1),
    (PATH, [(0, 1), (0, 2)], 1),
    (PATH, [(0, 1), (2, 1)], 1),
    (PATH, [(0, 1), (1, 3)], 1),
    (PATH, [(0, 1), (1, -1)], 1),
    (PATH, [(0, 1), (-2, 2)], 1),
    (PATH, [(0, 1), (1, THING)], 1),
    (PATH, [(0, 1), (1, 2), (1, 2)], 2),
    (PATH, [(0, 1), (1, 2), (2, 0)], 2),
    (PATH, [0, 1, 2], 0),
    (PATH, [(0, 1), 2], 1),
    (PATH, [(0, 1), 2, (1, 2)], 1),
    (PATH, [(0, 1), (1, 2), 2], 2),
    (RING, [(0, 1), (1, 2), (0, 2)], 2),
    (LONG_PATH, [(k, k + 1) for k in range(58)], 58),
)

# What a plan's things are never like, for either kind; only the judge is promised to get such things.
ODD_THINGS = (None, True, False, "0", "", [], [0], {}, (), (0,), (0, 1, 2), (0, None), (None, 1), ("0", "1"), (0, "1"),
              (False, 1), (0, True), ([0], 1), (0, [1]))


class LookWeb(unittest.TestCase):
    def test_webs_are_let_by(self):
        webs = ((1, []), (2, [(0, 1, 1)]), (2, [(1, 0, 1000000)]), PATH, STAR, RING, DOUBLE, SQUARE, TREE, LONG_PATH,
                MANY_ROADS, all_joined(7), (60, [(59 - k, 58 - k, 7) for k in range(59)]))
        for web in webs:
            with self.subTest(web=web):
                self.assertIsNone(asked(self, look_web, web))

    def test_sixty_places_and_120_roads(self):
        web = (60, LONG_PATH[1] + [(0, 59, 1000000)] * 61)
        self.assertEqual(len(web[1]), 120)
        self.assertIsNone(asked(self, look_web, web))
        self.assertEqual(refused(self, "NoWeb", look_web, (60, web[1] + [(0, 59, 1)])).road, -1)

    def test_roads_lead_both_ways_in_whatever_order(self):
        self.assertIsNone(asked(self, look_web, (4, [(3, 2, 1), (2, 1, 1), (1, 0, 1)])))
        self.assertIsNone(asked(self, look_web, (4, [(2, 3, 1), (1, 2, 1), (0, 1, 1)])))

    def test_some_webs_are_let_by(self):
        chance = random.Random(8)
        for turn in range(50):
            many = chance.randint(1, 60)
            self.assertIsNone(look_web(some_web(chance, many, chance.randint(0, 61), 1000000)))

    def test_no_webs(self):
        for web, road in NO_WEBS:
            with self.subTest(web=web):
                self.assertEqual(refused(self, "NoWeb", look_web, web).road, road)

    def test_a_place_not_come_to(self):
        chance = random.Random(9)
        for turn in range(50):
            many = chance.randint(2, 60)
            web = some_web(chance, many, 0)
            web[1].pop(chance.randrange(many - 1))
            self.assertEqual(refused(self, "NoWeb", look_web, web).road, -1)

    def test_things_of_other_kinds(self):
        for web in ODD_WEBS:
            with self.subTest(web=web):
                self.assertEqual(refused(self, "NoWeb", look_web, web).road, -1)
        for road in ODD_ROADS:
            with self.subTest(road=road):
                self.assertEqual(refused(self, "NoWeb", look_web, (2, [(0, 1, 1), road])).road, 1)


class Joined(unittest.TestCase):
    def test_joined(self):
        self.assertEqual(asked(self, joined, PATH, 0, 1), 2)
        self.assertEqual(asked(self, joined, PATH, 2, 1), 5)
        self.assertIsNone(asked(self, joined, PATH, 0, 2))

    def test_the_shortest_of_several_roads(self):
        self.assertEqual(asked(self, joined, DOUBLE, 0, 1), 4)
        self.assertEqual(asked(self, joined, DOUBLE, 1, 0), 4)
        for a in range(5):
            b = (a + 1) % 5
            self.assertEqual(asked(self, joined, MANY_ROADS, b, a), a + 1)

    def test_the_shortest_at_each_place_of_the_list(self):
        for lengths in ((1, 2, 3), (2, 1, 3), (3, 2, 1), (1, 1, 2), (1000000, 999999, 1000000)):
            web = (2, [(k % 2, 1 - k % 2, length) for k, length in enumerate(lengths)])
            self.assertEqual((joined(web, 0, 1), joined(web, 1, 0)), (min(lengths),) * 2)

    def test_a_place_and_itself(self):
        for web in ((1, []), PATH, RING, LONG_PATH):
            for place in range(web[0]):
                self.assertIsNone(asked(self, joined, web, place, place))

    def test_each_two_places(self):
        chance = random.Random(10)
        for web in [all_joined(7, 5)] + [some_web(chance, chance.randint(1, 12), 12) for turn in range(10)]:
            for a in range(web[0]):
                for b in range(web[0]):
                    self.assertEqual(joined(web, a, b), road_apart(web, a, b))

    def test_no_web_goes_ahead(self):
        for web, road in NO_WEBS:
            self.assertEqual(refused(self, "NoWeb", joined, web, 0, 1).road, road)


class Costs(unittest.TestCase):
    def told(self, web, kind, plan):
        costs = asked(self, costs_of, web, kind, plan)
        self.assertIsInstance(costs, list)
        self.assertTrue(all(type(cost) is int for cost in costs))
        return costs

    def test_walks(self):
        for web, plan, costs in WALKS:
            with self.subTest(web=web, plan=plan):
                self.assertEqual(self.told(web, "walk", plan), costs)

    def test_spreads(self):
        for web, plan, costs in SPREADS:
            with self.subTest(web=web, plan=plan):
                self.assertEqual(self.told(web, "spread", plan), costs)

    def test_no_walks(self):
        for web, plan, at in NO_WALKS:
            with self.subTest(web=web, plan=plan):
                self.assertEqual(refused(self, "NoPlan", costs_of, web, "walk", plan).at, at)

    def test_no_spreads(self):
        for web, plan, at in NO_SPREADS:
            with self.subTest(web=web, plan=plan):
                self.assertEqual(refused(self, "NoPlan", costs_of, web, "spread", plan).at, at)

    def test_a_plan_of_the_other_kind(self):
        for web, plan, costs in WALKS:
            self.assertEqual(refused(self, "NoPlan", costs_of, web, "spread", plan).at, 0)
        for web, plan, costs in SPREADS:
            self.assertEqual(refused(self, "NoPlan", costs_of, web, "walk", plan).at, 0)

    def test_things_of_other_kinds(self):
        for thing in ODD_THINGS:
            with self.subTest(thing=thing):
                self.assertEqual(refused(self, "NoPlan", costs_of, PATH, "walk", [0, thing, 1, 2]).at, 1)
                self.assertEqual(refused(self, "NoPlan", costs_of, PATH, "walk", [thing, 1, 2]).at, 0)
                self.assertEqual(refused(self, "NoPlan", costs_of, PATH, "spread", [(0, 1), thing, (1, 2)]).at, 1)
        for plan in (None, 0, "", (0, 1, 2), ((0, 1), (1, 2)), {}):
            for kind in ("walk", "spread"):
                refused(self, "NoPlan", costs_of, PATH, kind, plan)

    def test_long_walks(self):
        there = list(range(60))
        walk = there + (there[-2::-1] + there[1:]) * 20
        self.assertEqual(self.told(LONG_PATH, "walk", walk), there)
        around = [0] + [1, 0] * 5000 + [1, 2]
        self.assertEqual(self.told(PATH, "walk", around), [0, 2, 2 * 10001 + 5])

    def test_a_road_is_paid_each_time(self):
        self.assertEqual(self.told((3, [(0, 1, 1000000), (1, 2, 7)]), "walk", [0, 1, 0, 1, 0, 1, 2]),
                         [0, 1000000, 5000007])

    def test_no_web_then_no_kind_then_no_plan(self):
        for web, road in NO_WEBS:
            self.assertEqual(refused(self, "NoWeb", costs_of, web, "tree", None).road, road)
            self.assertEqual(refused(self, "NoWeb", costs_of, web, "walk", [0]).road, road)
        for kind in NO_KINDS:
            with self.subTest(kind=kind):
                refused(self, "NoKind", costs_of, PATH, kind, [0, 1, 2])
                refused(self, "NoKind", costs_of, LONG_PATH, kind, [7])

    def test_other_things_as_kind(self):
        for kind in ODD_KINDS:
            refused(self, "NoKind", costs_of, PATH, kind, [0, 1, 2])


if __name__ == "__main__":
    unittest.main()
