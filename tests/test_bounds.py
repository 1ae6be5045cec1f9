import copy
import random
import unittest
from fractions import Fraction

from hideworth.bounds import high_of, low_of
from hideworth.finder import web_worth
from hideworth.judge import judged
from hideworth.least import best_plan, least_table
from hideworth.trees import tree_worth
from hideworth.webs import costs_of
from tests.apart import (DOUBLE, PATH, RING, SQUARE, STAR, TREE, all_joined, costs_apart, least_apart, plans_apart,
                         some_web)
from tests.asking import asked, assert_fraction, refused
from tests.test_judge import ALONE, BOTH, FIRST, GREAT, ODD, ring
from tests.test_least import NO_WEIGHTS, some_weights
from tests.test_webs import NO_KINDS, NO_WEBS, ODD_KINDS


def some_webs():
    chance = random.Random(80)
    webs = [ALONE, PATH, STAR, RING, DOUBLE, SQUARE, TREE]
    return chance, webs + [some_web(chance, chance.randint(1, 5), chance.randint(0, 4)) for turn in range(12)]


class Highs(unittest.TestCase):
    def told(self, web, kind, paper):
        high = assert_fraction(self, asked(self, high_of, web, kind, paper))
        whole = sum(weight for plan, weight in paper)
        rows = [(costs_apart(web, kind, plan), weight) for plan, weight in paper]
        averages = [Fraction(sum(costs[j] * weight for costs, weight in rows), whole) for j in range(web[0])]
        self.assertEqual(high, max(averages))
        return high

    def test_by_hand(self):
        self.assertEqual(asked(self, high_of, ALONE, "walk", [([0], 3)]), (0, 1))
        self.assertEqual(asked(self, high_of, ALONE, "spread", [([], 3)]), (0, 1))
        self.assertEqual(asked(self, high_of, PATH, "walk", [([0, 1, 2], 1)]), (7, 1))
        self.assertEqual(asked(self, high_of, PATH, "walk", [([0, 1, 2], 1), ([0, 1, 0, 1, 2], 2)]), (29, 3))
        self.assertEqual(asked(self, high_of, STAR, "spread", [([(0, 1), (0, 2)], 1), ([(0, 2), (0, 1)], 2)]), (5, 3))
        self.assertEqual(asked(self, high_of, STAR, "walk", [([0, 1, 0, 2], 2), ([0, 2, 0, 1], 2)]), (2, 1))

    def test_papers_that_web_worth_tells(self):
        chance, webs = some_webs()
        for web in webs + [all_joined(7), some_web(chance, 7, 5)]:
            for kind in BOTH:
                worth, seeker, hider = web_worth(web, kind)
                self.assertEqual(self.told(web, kind, seeker), Fraction(*worth))

    def test_the_worth_is_no_more(self):
        chance, webs = some_webs()
        for web in webs:
            for kind in BOTH:
                worth = Fraction(*web_worth(web, kind)[0])
                plans = plans_apart(web, kind)
                for turn in range(5):
                    paper = [(chance.choice(plans), chance.choice((1, 2, 10 ** 30))) for k in range(chance.randint(1, 4))]
                    self.assertGreaterEqual(self.told(web, kind, paper), worth)

    def test_trees(self):
        for web in (PATH, STAR, TREE):
            worth, paper, weights = tree_worth(web)
            self.assertEqual(asked(self, high_of, web, "walk", paper), worth)
            self.assertEqual(asked(self, low_of, web, "walk", weights), worth)

    def test_papers_that_are_no_list_or_empty(self):
        for kind in BOTH:
            seeker = ring(kind)[0]
            for paper in (None, True, 0, 1, "", "plan", (), tuple(seeker), {}, {0: seeker[0]}, []):
                self.no_paper(kind, paper, 0)

    def test_things_of_all_kinds(self):
        for kind in BOTH:
            seeker = ring(kind)[0]
            plan = seeker[0][0]
            shares = [*ODD, plan, list(seeker[0]), (plan,), (plan, 1, 1), (1, plan), (tuple(plan), 1), {0: plan, 1: 1}]
            shares += [(plan, weight) for weight in (0, -1, True, None, "1", [1], (1, 1), {}, -10 ** 40)]
            shares += [(other, 1) for other in (None, 0, True, "", "walk", {}, (), [], [0], [0, 1], [1, 0, 2], [[0]], [None],
                                                [(0, 1)], [(0, 1), (0, 1)], [(0, 1), None], [(0, True), (1, 2)], [0, True, 2])]
            for k in range(3):
                for share in shares:
                    paper = copy.deepcopy(seeker + seeker[:1])
                    paper[k] = share
                    with self.subTest(kind=kind, share=share, k=k):
                        self.no_paper(kind, paper, k)

    def test_the_first_of_several(self):
        seeker = ring("walk")[0]
        self.no_paper("walk", [seeker[0], None, seeker[1], (None, 0)], 1)
        self.no_paper("walk", [seeker[0], seeker[1], ([0, 1], 1), 7], 2)

    def test_a_plan_of_the_other_kind(self):
        self.no_paper("walk", ring("spread")[0], 0)
        self.no_paper("spread", ring("walk")[0], 0)

    def no_paper(self, kind, paper, k):
        self.assertEqual(refused(self, "NoPaper", high_of, RING, kind, paper).k, k)
        self.assertEqual(judged(RING, kind, (3, 2), paper, None), ("plan", k))

    def test_a_paper_changed_behind_is_told_as_it_is_then(self):
        paper = [([0, 1, 2], 1)]
        first = high_of(PATH, "walk", paper)
        paper[0][0].extend([1, 2])
        paper.append(([0, 1, 0, 1, 2], 1))
        self.assertEqual((first, high_of(PATH, "walk", paper)), ((7, 1), (9, 1)))
        paper[0][0].append(0)
        self.assertEqual(refused(self, "NoPaper", high_of, PATH, "walk", paper).k, 0)


class Lows(unittest.TestCase):
    def told(self, web, kind, weights):
        low = assert_fraction(self, asked(self, low_of, web, kind, weights))
        self.assertEqual(low, Fraction(least_apart(web, kind, weights, FIRST), sum(weights)))
        return low

    def test_by_hand(self):
        self.assertEqual(asked(self, low_of, ALONE, "walk", [5]), (0, 1))
        self.assertEqual(asked(self, low_of, ALONE, "spread", [5]), (0, 1))
        self.assertEqual(asked(self, low_of, PATH, "walk", [0, 1, 2]), (16, 3))
        self.assertEqual(asked(self, low_of, PATH, "spread", [9, 0, 0]), (0, 1))
        self.assertEqual(asked(self, low_of, RING, "walk", [0, 2, 2]), (3, 2))
        self.assertEqual(asked(self, low_of, STAR, "walk", [0, 1, 3]), (3, 2))

    def test_papers_that_web_worth_tells(self):
        chance, webs = some_webs()
        for web in webs + [all_joined(6), some_web(chance, 6, 5)]:
            for kind in BOTH:
                worth, seeker, (weights, table) = web_worth(web, kind)
                self.assertEqual(self.told(web, kind, weights), Fraction(*worth))
                self.assertEqual(Fraction(table[FIRST], sum(weights)), Fraction(*worth))

    def test_the_worth_is_no_less(self):
        chance, webs = some_webs()
        for web in webs:
            for kind in BOTH:
                worth = Fraction(*web_worth(web, kind)[0])
                for turn in range(5):
                    self.assertLessEqual(self.told(web, kind, some_weights(chance, web[0])), worth)

    def test_as_the_least_table_and_the_best_plan_say(self):
        chance, webs = some_webs()
        for web in webs:
            for kind in BOTH:
                weights = some_weights(chance, web[0])
                low = Fraction(*low_of(web, kind, weights))
                costs = costs_of(web, kind, best_plan(web, kind, weights))
                self.assertEqual(low * sum(weights), least_table(web, kind, weights)[FIRST])
                self.assertEqual(low * sum(weights), sum(weight * cost for weight, cost in zip(weights, costs)))

    def test_two_papers_show_the_worth_where_both_come_to_it(self):
        chance, webs = some_webs()
        for web in webs:
            for kind in BOTH:
                worth, seeker, (weights, table) = web_worth(web, kind)
                for other in ([1] * web[0], some_weights(chance, web[0]), weights):
                    table = least_table(web, kind, other)
                    shows = low_of(web, kind, other) == high_of(web, kind, seeker)
                    self.assertEqual(judged(web, kind, worth, seeker, (other, table)) is None, shows)

    def test_no_weights(self):
        for why, weights in NO_WEIGHTS.items():
            for kind in BOTH:
                with self.subTest(why, kind=kind):
                    refused(self, "NoWeights", low_of, PATH, kind, weights)
        for weights in ([0], [], [1, 1], [-1], [True]):
            refused(self, "NoWeights", low_of, ALONE, "walk", weights)


class Refusals(unittest.TestCase):
    def refused_by_each(self, name, web, kind):
        papers = ([([0], 1)], [], None, [([0], 0)], "x")
        found = [refused(self, name, high_of, web, kind, paper) for paper in papers]
        found += [refused(self, name, low_of, web, kind, weights) for weights in ([1] * 7, [], None, [0], "x", [1])]
        self.assertEqual(len({getattr(error, "road", None) for error in found}), 1)
        return found[0]

    def test_no_web_ahead_of_all_else(self):
        for web, road in NO_WEBS:
            for kind in BOTH + ("tree",):
                self.assertEqual(self.refused_by_each("NoWeb", web, kind).road, road)

    def test_too_great_ahead_of_the_kind(self):
        for web in GREAT:
            for kind in BOTH + ("tree", ""):
                self.refused_by_each("TooGreat", web, kind)

    def test_no_kind_ahead_of_papers_and_weights(self):
        for kind in NO_KINDS + ODD_KINDS:
            for web in (ALONE, RING):
                self.refused_by_each("NoKind", web, kind)


if __name__ == "__main__":
    unittest.main()
