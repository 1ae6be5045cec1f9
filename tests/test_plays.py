import random
import unittest
from fractions import Fraction

from hideworth.boxes import budget_worth, found_by
from hideworth.finder import web_worth
from hideworth.moving import moving_worth
from hideworth.plays import average, played, whole_of
from hideworth.trees import tree_worth
from hideworth.webs import costs_of
from tests.apart import PATH, RING, SQUARE, STAR, TREE
from tests.asking import asked, assert_fraction, form, refused
from tests.test_judge import ALONE, BOTH

GREAT = 10 ** 30 - 1
WALKS = [([0, 1, 2], 3), ([0, 2, 1], 1), ([0, 1, 0, 2], 2)]
SPREADS = [([(0, 1), (1, 2)], 1), ([(0, 2), (0, 1)], 4)]


def some_papers():
    yield WALKS
    yield SPREADS
    yield [([], 1)]
    yield [([0], 7)]
    # The same plan, at two places.
    yield [([0, 1], 2), ([0, 1], 1), ([0, 2], 1), ([0, 1], 1)]
    yield tree_worth(TREE)[1]
    for kind in BOTH:
        for web in (ALONE, STAR, SQUARE):
            yield web_worth(web, kind)[1]
    yield budget_worth([(1, 1, 2), (2, 1, 3)], 4)[1]
    yield from moving_worth(PATH, 2)[1:]


class Wholes(unittest.TestCase):
    def test_wholes(self):
        self.assertEqual(asked(self, whole_of, WALKS), 6)
        self.assertEqual(asked(self, whole_of, SPREADS), 5)
        self.assertEqual(asked(self, whole_of, [([0], 1)]), 1)
        self.assertEqual(asked(self, whole_of, [([0], GREAT), ([], GREAT)]), 2 * GREAT)

    def test_a_whole_number(self):
        for paper in some_papers():
            whole = asked(self, whole_of, paper)
            self.assertIs(type(whole), int)
            self.assertEqual(whole, sum(weight for plan, weight in paper))


class Played(unittest.TestCase):
    def told(self, paper, number):
        plan = asked(self, played, paper, number)
        self.assertIs(type(plan), list)
        self.assertFalse(any(plan is own for own, weight in paper), "the plan is the paper's own list")
        return plan

    def test_by_hand(self):
        plans = [self.told(WALKS, number) for number in range(6)]
        self.assertEqual(plans, [[0, 1, 2]] * 3 + [[0, 2, 1]] + [[0, 1, 0, 2]] * 2)
        self.assertEqual(self.told(SPREADS, 0), [(0, 1), (1, 2)])
        self.assertEqual(self.told(SPREADS, 1), [(0, 2), (0, 1)])
        self.assertEqual(self.told(SPREADS, 4), [(0, 2), (0, 1)])

    def test_at_each_sum_of_the_first_weights(self):
        chance = random.Random(50)
        weights = [chance.choice((1, 2, GREAT, chance.randint(1, GREAT))) for k in range(20)]
        paper = [([0] * k, weight) for k, weight in enumerate(weights)]
        for k in range(20):
            up_to = sum(weights[:k])
            self.assertEqual(self.told(paper, up_to), [0] * k)
            self.assertEqual(self.told(paper, up_to + weights[k] - 1), [0] * k)
            if k:
                self.assertEqual(self.told(paper, up_to - 1), [0] * (k - 1))
        refused(self, "NoPlay", played, paper, sum(weights))

    def test_each_plan_as_often_as_its_weight_in_order(self):
        for paper in some_papers():
            plans = [form(played(paper, number)) for number in range(whole_of(paper))]
            self.assertEqual(plans, [form(plan) for plan, weight in paper for turn in range(weight)])

    def test_the_plan_is_a_list_of_its_own(self):
        paper = [([0, 1, 2], 2), ([0, 2, 1], 1)]
        plan = played(paper, 0)
        plan.append(7)
        self.assertEqual(paper, [([0, 1, 2], 2), ([0, 2, 1], 1)])
        again = played(paper, 1)
        paper[0][0].clear()
        self.assertEqual(again, [0, 1, 2])
        self.assertEqual(played(paper, 0), [])

    def test_no_play(self):
        for paper in (WALKS, SPREADS, [([0], 1)], [([0], GREAT)]):
            whole = sum(weight for plan, weight in paper)
            for number in (-1, -whole, -GREAT, whole, whole + 1, 2 * whole, GREAT + whole):
                with self.subTest(whole=whole, number=number):
                    refused(self, "NoPlay", played, paper, number)
            self.told(paper, 0)
            self.told(paper, whole - 1)

    def test_truths_are_no_numbers(self):
        for number in (True, False, None, "0"):
            refused(self, "NoPlay", played, WALKS, number)


class Averages(unittest.TestCase):
    def told(self, numbers, weights):
        return assert_fraction(self, asked(self, average, numbers, weights))

    def test_by_hand(self):
        self.assertEqual(asked(self, average, [1, 2], [1, 1]), (3, 2))
        self.assertEqual(asked(self, average, [1, 2, 3], [0, 0, 5]), (3, 1))
        self.assertEqual(asked(self, average, [7], [3]), (7, 1))
        self.assertEqual(asked(self, average, [-1, 1], [2, 2]), (0, 1))
        self.assertEqual(asked(self, average, [-3, 1], [1, 0]), (-3, 1))
        self.assertEqual(asked(self, average, [-5, 1], [2, 4]), (-1, 1))
        self.assertEqual(asked(self, average, [0, 0], [1, 2]), (0, 1))
        self.assertEqual(asked(self, average, [-1, 0], [1, 2]), (-1, 3))
        self.assertEqual(asked(self, average, [GREAT, -GREAT], [GREAT, 0]), (GREAT, 1))

    def test_as_by_fractions(self):
        chance = random.Random(51)
        for turn in range(200):
            many = chance.randint(1, 12)
            top = chance.choice((3, 1000, GREAT))
            numbers = [chance.randint(-top, top) for k in range(many)]
            weights = [chance.choice((0, 1, chance.randint(0, top))) for k in range(many)]
            weights[chance.randrange(many)] += 1
            sums = sum(Fraction(weight, sum(weights)) * number for weight, number in zip(weights, numbers))
            self.assertEqual(self.told(numbers, weights), sums)

    def test_plays_pay_what_the_sums_say(self):
        for kind in BOTH:
            for web in (STAR, RING, SQUARE):
                worth, paper, (weights, table) = web_worth(web, kind)
                whole = whole_of(paper)
                plays = [costs_of(web, kind, played(paper, number)) for number in range(whole)]
                shares = [weight for plan, weight in paper]
                for place in range(web[0]):
                    paid = self.told([costs_of(web, kind, plan)[place] for plan, weight in paper], shares)
                    self.assertEqual(paid, Fraction(sum(costs[place] for costs in plays), whole))
                    self.assertLessEqual(paid, Fraction(*worth))
                for costs in plays:
                    self.assertGreaterEqual(self.told(costs, weights), Fraction(*worth))

    def test_a_budgets_mix(self):
        boxes = [(1, 1, 2), (2, 1, 3)]
        worth, mix, paper = budget_worth(boxes, 4)
        plays = [found_by(boxes, played(mix, number)) for number in range(whole_of(mix))]
        for box in range(2):
            found = sum(Fraction(*chances[box]) for chances in plays) / whole_of(mix)
            self.assertGreaterEqual(found, Fraction(*worth))


if __name__ == "__main__":
    unittest.main()
