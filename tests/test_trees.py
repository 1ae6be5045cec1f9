import math
import random
import unittest

from hideworth.finder import web_worth
from hideworth.judge import judged
from hideworth.least import least_table
from hideworth.trees import is_tree, round_of, tree_worth, uneven
from hideworth.webs import costs_of
from tests.apart import (DOUBLE, PATH, RING, SQUARE, STAR, TREE, all_joined, ahead_of, branches_apart, even_shares,
                         longer, renamed, some_names, some_web, uneven_apart)
from tests.asking import asked, assert_fraction, assert_paper, refused
from tests.test_judge import ALONE
from tests.test_webs import LONG_PATH, MANY_ROADS, NO_WEBS

# Places named in any order: 0 leads to 4 and 9, 4 to 1, 7 and 8, 9 to 2, 2 to 3, 5 and 6.
MIXED = (10, [(2, 6, 1), (9, 0, 2), (8, 4, 3), (4, 0, 4), (5, 2, 5), (4, 1, 6), (2, 9, 7), (3, 2, 8), (4, 7, 9)])
MIXED_ROUND = [0, 4, 1, 4, 7, 4, 8, 4, 0, 9, 2, 3, 2, 5, 2, 6, 2, 9, 0]
LONG_STAR = (60, [(0, k, 1000000 - k) if k % 2 else (k, 0, k) for k in range(1, 60)])
COMB = (60, [(k, k + 1, 1000000) for k in range(29)] + [(k, 59 - k, 999983 - k) for k in range(30)])
NO_TREES = (RING, DOUBLE, SQUARE, MANY_ROADS, all_joined(7), (2, [(0, 1, 1), (0, 1, 1)]),
            (60, LONG_PATH[1] + [(0, 59, 1)]), (4, [(0, 1, 1), (1, 2, 1), (2, 0, 1), (2, 3, 1)]))


def great_trees():
    chance = random.Random(30)
    return [LONG_PATH, LONG_STAR, COMB] + [some_web(chance, 60, 0, 1000000) for turn in range(4)]


def small_trees():
    chance = random.Random(31)
    webs = [ALONE, PATH, STAR, TREE, (2, [(1, 0, 9)]), (4, [(0, 2, 3), (2, 1, 3), (3, 2, 3)])]
    return webs + [some_web(chance, chance.randint(1, 7), 0, chance.choice((1, 4, 1000000))) for turn in range(15)]


def round_apart(web):
    return round_from(ahead_of(web), 0)


def round_from(ahead, place):
    walk = [place]
    for end in sorted(one for one in ahead if ahead[one][0] == place):
        walk += round_from(ahead, end) + [place]
    return walk


class IsTree(unittest.TestCase):
    def test_trees(self):
        for web in [MIXED] + small_trees() + great_trees():
            self.assertIs(asked(self, is_tree, web), True)

    def test_others(self):
        for web in NO_TREES:
            with self.subTest(web=web):
                self.assertIs(asked(self, is_tree, web), False)

    def test_no_web(self):
        for web, road in NO_WEBS:
            self.assertEqual(refused(self, "NoWeb", is_tree, web).road, road)

    def test_a_web_changed_behind_is_told_as_it_is_then(self):
        web = (3, list(STAR[1]))
        self.assertTrue(is_tree(web))
        web[1].append((1, 2, 1))
        self.assertFalse(is_tree(web))
        for call in (round_of, tree_worth):
            refused(self, "NoTree", call, web)


class Rounds(unittest.TestCase):
    def told(self, web):
        walk = asked(self, round_of, web)
        self.assertIs(type(walk), list)
        self.assertEqual({type(place) for place in walk}, {int})
        return walk

    def test_one_place(self):
        self.assertEqual(self.told(ALONE), [0])

    def test_rows(self):
        self.assertEqual(self.told(PATH), [0, 1, 2, 1, 0])
        self.assertEqual(self.told((3, [(0, 2, 1), (2, 1, 1)])), [0, 2, 1, 2, 0])
        self.assertEqual(self.told(LONG_PATH), list(range(60)) + list(range(58, -1, -1)))

    def test_a_star(self):
        self.assertEqual(self.told(STAR), [0, 1, 0, 2, 0])
        self.assertEqual(self.told((4, [(3, 0, 1), (0, 1, 9), (2, 0, 4)])), [0, 1, 0, 2, 0, 3, 0])

    def test_places_named_in_any_order(self):
        self.assertEqual(self.told(MIXED), MIXED_ROUND)
        self.assertEqual(self.told(TREE), [0, 1, 2, 1, 4, 1, 0, 3, 0])
        # The road's end counts, not what lies beyond: 2 ahead of 3, though 1 lies behind 3.
        self.assertEqual(self.told((4, [(3, 1, 1), (0, 3, 1), (0, 2, 1)])), [0, 2, 0, 3, 1, 3, 0])

    def test_as_told_apart(self):
        for web in small_trees() + great_trees():
            walk = self.told(web)
            self.assertEqual(walk, round_apart(web))
            self.assertEqual(len(walk), 2 * web[0] - 1)
            costs_of(web, "walk", walk)

    def test_each_road_is_gone_twice(self):
        for web in great_trees():
            walk = self.told(web)
            gone = sorted(tuple(sorted(road)) for road in zip(walk, walk[1:]))
            self.assertEqual(gone, sorted(2 * [tuple(sorted((a, b))) for a, b, length in web[1]]))

    def test_the_order_of_roads_changes_nothing(self):
        chance = random.Random(32)
        for turn in range(5):
            roads = [(b, a, length) for a, b, length in chance.sample(MIXED[1], 9)]
            self.assertEqual(self.told((10, roads)), MIXED_ROUND)


class Worths(unittest.TestCase):
    def told(self, web):
        answer = asked(self, tree_worth, web)
        self.assertEqual((type(answer), len(answer)), (tuple, 3))
        worth, paper, weights = answer
        self.assertEqual(assert_fraction(self, worth), sum(length for a, b, length in web[1]))
        assert_paper(self, paper)
        there = round_apart(web)
        self.assertEqual(paper, [(there, 1), (there[::-1], 1)])
        self.assertIs(type(weights), list)
        self.assertTrue(all(type(weight) is int for weight in weights))
        self.assertEqual(math.gcd(*weights), 1)
        self.assertEqual(weights, [share * sum(weights) for share in even_shares(web)])
        self.assertIsNone(uneven_apart(web, weights))
        self.assertIsNone(asked(self, uneven, web, weights))
        return answer

    def test_one_place(self):
        self.assertEqual(self.told(ALONE), ((0, 1), [([0], 1), ([0], 1)], [1]))

    def test_by_hand(self):
        self.assertEqual(self.told(PATH), ((7, 1), [([0, 1, 2, 1, 0], 1), ([0, 1, 2, 1, 0], 1)], [0, 0, 1]))
        self.assertEqual(self.told(STAR)[2], [0, 1, 1])
        # From 0 branches of 2 and of 8, the latter with branches of 3 and of 1.
        self.assertEqual(self.told(TREE), (
            (10, 1), [([0, 1, 2, 1, 4, 1, 0, 3, 0], 1), ([0, 3, 0, 1, 4, 1, 2, 1, 0], 1)], [0, 0, 3, 1, 1]))

    def test_small_ones(self):
        for web in [MIXED] + small_trees():
            with self.subTest(web=web):
                self.told(web)

    def test_great_ones(self):
        for web in great_trees():
            self.told(web)

    def test_lengths_so_many_times_give_the_same_weights(self):
        for web in (MIXED, TREE, LONG_PATH):
            self.assertEqual(tree_worth(longer(web, 9999))[2], tree_worth(web)[2])

    def test_it_is_the_worth_of_the_walked_web(self):
        for web in small_trees():
            with self.subTest(web=web):
                worth, paper, weights = tree_worth(web)
                self.assertEqual(web_worth(web, "walk")[0], worth)
                self.assertIsNone(judged(web, "walk", worth, paper, (weights, least_table(web, "walk", weights))))

    def test_by_the_round_no_place_pays_more(self):
        for web in great_trees():
            worth, paper, weights = tree_worth(web)
            rows = [costs_of(web, "walk", plan) for plan, weight in paper]
            sums = [sum(column) for column in zip(*rows)]
            self.assertLessEqual(max(sums), 2 * worth[0])
            # At leaves it is just so.
            self.assertTrue(all(paid == 2 * worth[0] for paid, weight in zip(sums, weights) if weight))

    def test_places_named_otherwise(self):
        chance = random.Random(33)
        for web in (MIXED, COMB):
            names = some_names(chance, web[0])
            worth, paper, weights = tree_worth(renamed(web, names))
            self.assertEqual([weights[names[place]] for place in range(web[0])], tree_worth(web)[2])


class Uneven(unittest.TestCase):
    def told(self, web, weights):
        place = asked(self, uneven, web, weights)
        self.assertEqual(place, uneven_apart(web, weights))
        self.assertIn(type(place), (int, type(None)))
        return place

    def test_even_ones(self):
        for web in [MIXED] + small_trees() + great_trees():
            weights = tree_worth(web)[2]
            for times in (1, 2, 7, 10 ** 60):
                self.assertIsNone(self.told(web, [weight * times for weight in weights]))

    def test_of_another_length_or_all_0(self):
        for web in [MIXED] + small_trees():
            weights = tree_worth(web)[2]
            for other in ([], weights + [0], weights[:-1], weights + [-1], [-1] * (web[0] + 1), [0] * web[0],
                          [0] * (web[0] + 1), [-1] * (web[0] - 1)):
                self.assertEqual(self.told(web, other), -1)

    def test_one_place(self):
        self.assertIsNone(self.told(ALONE, [1]))
        self.assertIsNone(self.told(ALONE, [10 ** 50]))
        self.assertEqual(self.told(ALONE, [-1]), 0)
        self.assertEqual(self.told(ALONE, [0]), -1)

    def test_an_inner_place_with_a_weight(self):
        self.assertEqual(self.told(PATH, [1, 0, 1]), 0)
        self.assertEqual(self.told(PATH, [0, 1, 1]), 1)
        self.assertEqual(self.told(PATH, [0, 1, 0]), 1)
        self.assertEqual(self.told(PATH, [0, -1, 1]), 1)
        self.assertEqual(self.told(PATH, [0, 5, -5]), 1)
        # At 0 the branches, of 2 and of 4, are right with it: an inner place's weight counts with those beyond.
        web = (5, [(0, 1, 2), (0, 2, 2), (2, 3, 1), (2, 4, 1)])
        self.assertIsNone(self.told(web, [0, 2, 0, 2, 2]))
        self.assertEqual(self.told(web, [0, 2, 2, 1, 1]), 2)

    def test_a_weight_below_0(self):
        self.assertEqual(self.told(PATH, [0, 0, -1]), 2)
        self.assertEqual(self.told(PATH, [0, 0, -10 ** 70]), 2)
        # Branches that are as their lengths, but below 0.
        self.assertEqual(self.told(STAR, [0, -1, -1]), 1)
        self.assertEqual(self.told((3, [(0, 1, 1), (1, 2, 1)]), [0, 0, -3]), 2)

    def test_branches_unlike_their_lengths(self):
        self.assertEqual(self.told(STAR, [0, 1, 2]), 0)
        self.assertEqual(self.told(STAR, [0, 1, 0]), 0)
        self.assertEqual(self.told(STAR, [0, -1, 1]), 0)
        self.assertEqual(self.told(TREE, [0, 0, 3, 1, 2]), 0)
        self.assertEqual(self.told(TREE, [0, 0, 2, 1, 2]), 1)
        self.assertEqual(self.told(TREE, [0, 0, 4, 1, 0]), 1)
        self.assertEqual(self.told(TREE, [0, 0, 5, 1, -1]), 1)
        # The first two are right, the third is not.
        self.assertEqual(self.told((4, [(0, 1, 1), (0, 2, 1), (0, 3, 1)]), [0, 1, 1, 2]), 0)
        self.assertEqual(self.told((4, [(0, 1, 1), (0, 2, 1), (0, 3, 1)]), [0, 2, 1, 1]), 0)
        self.assertEqual(self.told((4, [(0, 1, 1), (0, 2, 1), (0, 3, 1)]), [0, 0, 0, 2]), 0)

    def test_the_least_place_of_several(self):
        # Place 1 has a weight, place 2 one below 0: the least is told, whatever lies nearer to 0.
        web = (4, [(0, 3, 1), (3, 2, 1), (2, 1, 1)])
        self.assertEqual(self.told(web, [0, -1, 1, 1]), 1)
        self.assertEqual(self.told(web, [0, 1, 1, 1]), 2)
        self.assertEqual(self.told(web, [0, 1, 0, 1]), 3)
        self.assertEqual(self.told(web, [7, -1, 1, 1]), 0)

    def test_one_changed(self):
        for web in [MIXED] + small_trees() + great_trees()[:2]:
            weights = tree_worth(web)[2]
            for place in range(web[0]):
                for more in (1, -1, 10 ** 40, -10 ** 40, -weights[place]):
                    other = weights[:place] + [weights[place] + more] + weights[place + 1:]
                    self.assertEqual(uneven(web, other), uneven_apart(web, other))

    def test_any_weights(self):
        chance = random.Random(34)
        seen = set()
        for web in small_trees() + [MIXED]:
            for turn in range(40):
                weights = [0 if branches and chance.random() < 0.8 else chance.choice((0, 1, 1, 2, 3, -1))
                           for place, branches in sorted(branches_apart(web).items())]
                place = uneven(web, weights)
                self.assertEqual(place, uneven_apart(web, weights))
                seen.add(place)
        self.assertLessEqual({None, -1, 0, 1, 2, 3}, seen)


class Refusals(unittest.TestCase):
    def test_no_tree(self):
        for web in NO_TREES:
            for call, more in ((round_of, ()), (tree_worth, ()), (uneven, ([1] * web[0],)), (uneven, ([],))):
                refused(self, "NoTree", call, web, *more)

    def test_no_web_ahead(self):
        for web, road in NO_WEBS:
            for call, more in ((round_of, ()), (tree_worth, ()), (uneven, ([1],)), (uneven, ([],))):
                self.assertEqual(refused(self, "NoWeb", call, web, *more).road, road)

    def test_one_road_less_but_a_place_not_come_to(self):
        # As many roads as a tree has, two of them between the same places.
        web = (4, [(0, 1, 1), (1, 0, 1), (2, 3, 1)])
        for call, more in ((is_tree, ()), (round_of, ()), (tree_worth, ()), (uneven, ([1] * 4,))):
            self.assertEqual(refused(self, "NoWeb", call, web, *more).road, -1)


if __name__ == "__main__":
    unittest.main()
