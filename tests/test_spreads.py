import random
import unittest
from fractions import Fraction

from hideworth.bounds import low_of
from hideworth.finder import web_worth
from hideworth.spreads import tree_spread
from hideworth.trees import tree_worth, uneven
from tests.apart import PATH, STAR, TREE, depths_apart, even_shares, longer, renamed, some_names
from tests.asking import asked, assert_fraction, refused
from tests.test_judge import ALONE
from tests.test_trees import COMB, MIXED, NO_TREES, great_trees, small_trees
from tests.test_webs import LONG_PATH, NO_WEBS


class Spreads(unittest.TestCase):
    def told(self, web):
        answer = asked(self, tree_spread, web)
        self.assertEqual((type(answer), len(answer)), (tuple, 2))
        worth, weights = answer
        self.assertEqual([type(weight) for weight in weights], [int] * web[0])
        self.assertEqual(weights, tree_worth(web)[2])
        self.assertIsNone(uneven(web, weights))
        total = sum(length for a, b, length in web[1])
        mean = sum(share * depth for share, depth in zip(even_shares(web), depths_apart(web)))
        value = assert_fraction(self, worth)
        self.assertEqual(value, (total + mean) / 2)
        return value

    def test_one_place(self):
        self.assertEqual(asked(self, tree_spread, ALONE), ((0, 1), [1]))

    def test_rows(self):
        self.assertEqual(asked(self, tree_spread, PATH), ((7, 1), [0, 0, 1]))
        self.assertEqual(self.told(LONG_PATH), 59)
        # From its middle: ends 3 and 7 deep.
        web = (5, [(0, 1, 1), (1, 2, 2), (0, 3, 3), (3, 4, 4)])
        self.assertEqual(asked(self, tree_spread, web), ((79, 10), [0, 0, 3, 0, 7]))

    def test_stars(self):
        self.assertEqual(asked(self, tree_spread, STAR), ((3, 2), [0, 1, 1]))
        self.assertEqual(asked(self, tree_spread, (4, [(0, 1, 1), (2, 0, 2), (0, 3, 3)])), ((25, 6), [0, 1, 2, 3]))
        for many in (2, 3, 7, 30, 60):
            # All alike: on average half of them, and half a one more.
            self.assertEqual(self.told((many, [(0, k, 2) for k in range(1, many)])), many)

    def test_a_tree(self):
        # Leaves 7, 5 and 2 deep with weights 3, 1 and 1: half of 10 and of 28/5.
        self.assertEqual(asked(self, tree_spread, TREE), ((39, 5), [0, 0, 3, 1, 1]))

    def test_small_trees(self):
        for web in [MIXED] + small_trees():
            with self.subTest(web=web):
                self.told(web)

    def test_sixty_places(self):
        for web in great_trees():
            self.told(web)

    def test_it_is_the_worth_of_the_tree_spread_over(self):
        for web in small_trees():
            with self.subTest(web=web):
                worth, weights = tree_spread(web)
                self.assertEqual(web_worth(web, "spread")[0], worth)
                self.assertEqual(low_of(web, "spread", weights), worth)

    def test_it_is_at_most_the_worth_of_the_tree_walked(self):
        for web in small_trees() + great_trees():
            self.assertLessEqual(Fraction(*tree_spread(web)[0]), Fraction(*tree_worth(web)[0]))

    def test_lengths_so_many_times(self):
        for web in (MIXED, TREE, LONG_PATH):
            worth, weights = tree_spread(web)
            again, same = tree_spread(longer(web, 9999))
            self.assertEqual((Fraction(*again), same), (9999 * Fraction(*worth), weights))

    def test_places_named_otherwise(self):
        chance = random.Random(90)
        for web in (MIXED, COMB):
            names = some_names(chance, web[0])
            worth, weights = tree_spread(renamed(web, names))
            self.assertEqual((worth, [weights[names[place]] for place in range(web[0])]), tree_spread(web))

    def test_a_web_changed_behind_is_told_as_it_is_then(self):
        web = (3, list(STAR[1]))
        first = tree_spread(web)
        web[1][1] = (1, 2, 1)
        self.assertEqual((first, tree_spread(web)), (((3, 2), [0, 1, 1]), ((2, 1), [0, 0, 1])))


class Refusals(unittest.TestCase):
    def test_no_tree(self):
        for web in NO_TREES:
            refused(self, "NoTree", tree_spread, web)

    def test_no_web_ahead(self):
        for web, road in NO_WEBS:
            self.assertEqual(refused(self, "NoWeb", tree_spread, web).road, road)


if __name__ == "__main__":
    unittest.main()
