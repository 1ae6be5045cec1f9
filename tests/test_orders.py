import itertools
import random
import unittest
from fractions import Fraction

from hideworth.boxes import budget_worth
from hideworth.orders import awaited, best_order, is_sorted
from tests.asking import asked, numbers_in, refused
from tests.test_boxes import NO_BOXES

BOXES = [(1, 1, 2), (2, 1, 1)]

NO_WEIGHTS = {
    "none": [],
    "too few": [1],
    "too many": [1, 1, 1],
    "all 0": [0, 0],
    "one below 0": [2, -1],
    "a truth": [True, 1],
    "a text": [1, "1"],
    "None in it": [None, 1],
    "a fraction in it": [(1, 1), 1],
    "a tuple": (1, 1),
    "a text for all": "11",
    "None": None,
    "a number": 1,
    "a dict": {0: 1, 1: 1},
}

NO_PLANS = {
    "none": [],
    "too few": [2],
    "too many": [2, 1, 0],
    "below 0": [2, -1],
    "sixty-one": [61, 1],
    "a truth": [2, True],
    "a text": ["2", 1],
    "None in it": [None, 1],
    "a tuple": (2, 1),
    "None": None,
    "a number": 2,
    "a text for all": "21",
    "a dict": {0: 2, 1: 1},
}

# For the plan [2, 1].
NO_ORDERS = {
    "none": [],
    "a look too few": [0, 0],
    "a look too many": [0, 0, 1, 1],
    "another box in its place": [0, 1, 1],
    "a box that is not there": [0, 0, 2],
    "a box more that is not there": [0, 0, 1, 2],
    "a box below 0": [0, 0, -1],
    "a box more below 0": [0, 0, 1, -1],
    "a truth": [0, 0, True],
    "a truth as 0": [False, 0, 1],
    "a text": [0, 0, "1"],
    "None in it": [0, 0, 1, None],
    "a list in it": [0, 0, [1]],
    "a tuple": (0, 0, 1),
    "None": None,
    "a number": 1,
    "a text for all": "001",
    "a dict": {0: 2, 1: 1},
}


def chances_apart(boxes, weights, order):
    chances = []
    for k, box in enumerate(order):
        cost, hits, of = boxes[box]
        ahead = order[:k].count(box)
        chances.append(Fraction(weights[box], sum(weights)) * Fraction(hits, of) * (1 - Fraction(hits, of)) ** ahead)
    return chances


def awaited_apart(boxes, weights, order):
    chances = chances_apart(boxes, weights, order)
    return sum((boxes[box][0] * (1 - sum(chances[:k])) for k, box in enumerate(order)), Fraction(0))


def sorted_apart(boxes, weights, order):
    chances = chances_apart(boxes, weights, order)
    costs = [boxes[box][0] for box in order]
    return all(chances[k] * costs[k + 1] >= chances[k + 1] * costs[k] for k in range(len(order) - 1))


def orders_of(plan):
    looks = [box for box, count in enumerate(plan) for look in range(count)]
    return [list(order) for order in sorted(set(itertools.permutations(looks)))]


def some_boxes(chance, many):
    boxes = []
    for k in range(many):
        of = chance.choice((1, 2, 3, 50, chance.randint(1, 50)))
        boxes.append((chance.choice((1, 2, 60, chance.randint(1, 60))), chance.choice((of, chance.randint(1, of))), of))
    return boxes


def some_weights(chance, many):
    weights = [chance.choice((0, 1, 2, 3, 10 ** 30 - 1, chance.randint(0, 10 ** 6))) for k in range(many)]
    weights[chance.randrange(many)] += 1
    return weights


def some_plan(chance, many, most):
    return [chance.randint(0, most) for k in range(many)]


class Orders(unittest.TestCase):
    def awaited(self, boxes, weights, plan, order):
        answer = asked(self, awaited, boxes, weights, plan, order)
        self.assertIsInstance(answer, tuple)
        self.assertTrue(all(type(number) is int for number in numbers_in(answer)))
        told = Fraction(*answer)
        self.assertEqual(answer, (told.numerator, told.denominator), "not in lowest terms")
        return told

    def best(self, boxes, weights, plan):
        order = asked(self, best_order, boxes, weights, plan)
        self.assertIsInstance(order, list)
        self.assertTrue(all(type(box) is int for box in order))
        self.assertEqual([order.count(box) for box in range(len(boxes))], plan)
        self.assertEqual(len(order), sum(plan))
        self.assertTrue(sorted_apart(boxes, weights, order))
        self.assertIs(is_sorted(boxes, weights, plan, order), True)
        return order


class Awaited(Orders):
    def test_by_hand(self):
        # Chances 1/4 and 1/8 in the first box, 1/2 in the second.
        for order, worth in (([0, 0, 1], Fraction(3)), ([0, 1, 0], Fraction(11, 4)), ([1, 0, 0], Fraction(11, 4))):
            self.assertEqual(self.awaited(BOXES, [1, 1], [2, 1], order), worth)

    def test_one_box(self):
        self.assertEqual(self.awaited([(3, 1, 2)], [1], [1], [0]), 3)
        self.assertEqual(self.awaited([(3, 1, 2)], [7], [3], [0, 0, 0]), Fraction(21, 4))
        self.assertEqual(self.awaited([(60, 1, 50)], [1], [2], [0, 0]), 60 + 60 * Fraction(49, 50))
        self.assertEqual(self.awaited([(1, 1, 2)], [1], [60], [0] * 60), 2 - Fraction(1, 2 ** 59))

    def test_six_boxes(self):
        boxes = [(k + 1, 1, 1) for k in range(6)]
        self.assertEqual(self.awaited(boxes, [1] * 6, [1] * 6, [0, 1, 2, 3, 4, 5]),
                         Fraction(1 * 6 + 2 * 5 + 3 * 4 + 4 * 3 + 5 * 2 + 6 * 1, 6))
        self.assertEqual(self.awaited(boxes, [1] * 6, [1] * 6, [5, 4, 3, 2, 1, 0]),
                         Fraction(6 * 6 + 5 * 5 + 4 * 4 + 3 * 3 + 2 * 2 + 1 * 1, 6))

    def test_hits_as_many_as_of(self):
        # A second look into such a box finds nothing more, and a third.
        boxes = [(2, 3, 3), (5, 1, 1)]
        self.assertEqual(self.awaited(boxes, [1, 3], [3, 1], [0, 0, 0, 1]), 2 + 3 * Fraction(2 + 2 + 5, 4))
        self.assertEqual(self.awaited(boxes, [1, 3], [3, 1], [0, 1, 0, 0]), 2 + 5 * Fraction(3, 4))
        self.assertEqual(self.awaited(boxes, [1, 3], [3, 1], [1, 0, 0, 0]), 5 + 2 * Fraction(1, 4))

    def test_a_box_that_is_not_looked_into(self):
        # Where one hides there, all looks are paid.
        self.assertEqual(self.awaited([(2, 1, 1), (9, 1, 1), (4, 1, 1)], [1, 1, 1], [1, 0, 1], [0, 2]),
                         2 + 4 * Fraction(2, 3))

    def test_no_look_at_all(self):
        self.assertEqual(asked(self, awaited, BOXES, [1, 1], [0, 0], []), (0, 1))

    def test_weights_of_0(self):
        self.assertEqual(self.awaited([(2, 1, 1), (3, 1, 1)], [0, 5], [1, 1], [0, 1]), 5)
        self.assertEqual(self.awaited([(2, 1, 1), (3, 1, 1)], [0, 5], [1, 1], [1, 0]), 3)

    def test_weights_count_by_their_share(self):
        for times in (1, 2, 10 ** 28):
            told = self.awaited(BOXES, [3 * times, 5 * times], [2, 1], [0, 1, 0])
            self.assertEqual(told, 1 + 2 * Fraction(13, 16) + Fraction(3, 16))

    def test_weights_of_thirty_figures(self):
        high = 10 ** 30 - 1
        self.assertEqual(self.awaited([(1, 1, 1), (1, 1, 1)], [high, high - 1], [1, 1], [0, 1]),
                         1 + Fraction(high - 1, 2 * high - 1))

    def test_weights_that_were_told(self):
        boxes = [(1, 1, 50), (1, 1, 49), (2, 1, 47)]
        weights = budget_worth(boxes, 60)[2][0]
        self.assertGreater(max(weights), 10 ** 30)
        self.assertEqual(self.awaited(boxes, weights, [2, 1, 1], [0, 1, 2, 0]),
                         awaited_apart(boxes, weights, [0, 1, 2, 0]))

    def test_as_told_apart(self):
        chance = random.Random(4)
        for turn in range(150):
            many = chance.randint(1, 6)
            boxes, weights, plan = some_boxes(chance, many), some_weights(chance, many), some_plan(chance, many, 4)
            order = [box for box, count in enumerate(plan) for look in range(count)]
            chance.shuffle(order)
            with self.subTest(boxes=boxes, weights=weights, order=order):
                self.assertEqual(self.awaited(boxes, weights, plan, order), awaited_apart(boxes, weights, order))

    def test_the_greatest_plans(self):
        boxes = [(60, 1, 50), (59, 3, 49), (58, 5, 48), (57, 7, 47), (55, 1, 43), (53, 2, 41)]
        weights = [10 ** 30 - k for k in range(1, 7)]
        order = [box for look in range(60) for box in range(6)]
        self.assertEqual(Fraction(*awaited(boxes, weights, [60] * 6, order)), awaited_apart(boxes, weights, order))


class Sorted(Orders):
    def told(self, boxes, weights, plan, order):
        answer = asked(self, is_sorted, boxes, weights, plan, order)
        self.assertIn(answer, (True, False))
        self.assertIsInstance(answer, bool)
        return answer

    def test_by_hand(self):
        # Chances 1/4 and 1/8 for cost 1, 1/2 for cost 2: the first look of each box is as good as the other.
        self.assertTrue(self.told(BOXES, [1, 1], [2, 1], [0, 1, 0]))
        self.assertTrue(self.told(BOXES, [1, 1], [2, 1], [1, 0, 0]))
        self.assertFalse(self.told(BOXES, [1, 1], [2, 1], [0, 0, 1]))

    def test_two_alike_both_ways_round(self):
        for order in ([0, 1], [1, 0]):
            self.assertTrue(self.told([(1, 1, 2), (3, 1, 2)], [1, 3], [1, 1], order))
            self.assertTrue(self.told([(5, 2, 4), (5, 1, 2)], [9, 9], [1, 1], order))
            self.assertTrue(self.told([(5, 2, 4), (7, 1, 2), (1, 1, 1)], [0, 0, 1], [1, 1, 0], order))

    def test_two_nearly_alike(self):
        high = 10 ** 29
        self.assertTrue(self.told([(1, 1, 1), (1, 1, 1)], [high + 1, high], [1, 1], [0, 1]))
        self.assertFalse(self.told([(1, 1, 1), (1, 1, 1)], [high + 1, high], [1, 1], [1, 0]))

    def test_each_place_of_an_order_counts(self):
        boxes = [(1, 1, 1)] * 6
        weights = [6, 5, 4, 3, 2, 1]
        self.assertTrue(self.told(boxes, weights, [1] * 6, [0, 1, 2, 3, 4, 5]))
        for k in range(5):
            order = [0, 1, 2, 3, 4, 5]
            order[k], order[k + 1] = order[k + 1], order[k]
            self.assertFalse(self.told(boxes, weights, [1] * 6, order))

    def test_costs_count(self):
        self.assertTrue(self.told([(1, 1, 1), (60, 1, 1)], [1, 59], [1, 1], [0, 1]))
        self.assertFalse(self.told([(1, 1, 1), (60, 1, 1)], [1, 59], [1, 1], [1, 0]))

    def test_none_one_and_one_box_alone(self):
        self.assertTrue(self.told(BOXES, [1, 1], [0, 0], []))
        self.assertTrue(self.told(BOXES, [0, 1], [1, 0], [0]))
        self.assertTrue(self.told([(7, 1, 3)], [2], [60], [0] * 60))
        self.assertTrue(self.told([(7, 3, 3)], [2], [3], [0] * 3))

    def test_looks_that_find_nothing_go_behind(self):
        boxes = [(1, 1, 1), (60, 1, 50)]
        self.assertTrue(self.told(boxes, [10 ** 9, 1], [2, 1], [0, 1, 0]))
        self.assertFalse(self.told(boxes, [10 ** 9, 1], [2, 1], [0, 0, 1]))

    def test_as_told_apart(self):
        chance = random.Random(5)
        seen = []
        for turn in range(60):
            many = chance.randint(1, 3)
            boxes, weights, plan = some_boxes(chance, many), some_weights(chance, many), some_plan(chance, many, 2)
            for order in orders_of(plan):
                right = sorted_apart(boxes, weights, order)
                seen.append(right)
                self.assertIs(is_sorted(boxes, weights, plan, order), right)
        self.assertTrue(20 < sum(seen) < len(seen) - 20)


class Best(Orders):
    def test_by_hand(self):
        self.assertEqual(self.best([(2, 1, 2), (1, 1, 3)], [1, 1], [1, 1]), [1, 0])
        self.assertEqual(self.best([(2, 1, 2), (1, 1, 3)], [4, 1], [1, 1]), [0, 1])
        self.assertEqual(self.best([(1, 1, 2), (1, 1, 4)], [3, 4], [3, 1]), [0, 1, 0, 0])

    def test_no_look_at_all(self):
        self.assertEqual(self.best(BOXES, [1, 1], [0, 0]), [])

    def test_one_box(self):
        self.assertEqual(self.best([(4, 1, 9)], [5], [60]), [0] * 60)

    def test_a_box_that_is_not_looked_into(self):
        self.assertEqual(self.best([(4, 1, 9), (1, 1, 1), (3, 2, 9)], [1, 1, 1], [1, 0, 1]), [2, 0])

    def test_weights_of_0_go_behind(self):
        self.assertEqual(self.best([(1, 1, 1), (60, 1, 50)], [0, 1], [1, 2]), [1, 1, 0])

    def test_no_order_awaits_less(self):
        chance = random.Random(6)
        for turn in range(80):
            many = chance.randint(1, 4)
            boxes, weights = some_boxes(chance, many), some_weights(chance, many)
            plan = some_plan(chance, many, 6 // many)
            order = self.best(boxes, weights, plan)
            with self.subTest(boxes=boxes, weights=weights, plan=plan):
                least = min(awaited_apart(boxes, weights, one) for one in orders_of(plan))
                self.assertEqual(self.awaited(boxes, weights, plan, order), least)

    def test_all_sorted_orders_await_the_same(self):
        boxes, weights, plan = [(2, 1, 2), (1, 1, 4), (3, 3, 4)], [2, 2, 2], [2, 2, 1]
        told = {awaited(boxes, weights, plan, order) for order in orders_of(plan)
                if is_sorted(boxes, weights, plan, order)}
        self.assertEqual(told, {awaited(boxes, weights, plan, best_order(boxes, weights, plan))})

    def test_great_plans(self):
        chance = random.Random(7)
        for turn in range(10):
            boxes, weights = some_boxes(chance, 6), some_weights(chance, 6)
            self.best(boxes, weights, [60] * 6)
            self.best(boxes, weights, some_plan(chance, 6, 60))


class Refusals(Orders):
    # Each function, with an order for those that get one.
    CALLS = ((awaited, ([0, 1, 0],)), (is_sorted, ([0, 1, 0],)), (best_order, ()))

    def refused_by_each(self, name, boxes, weights, plan):
        for call, order in self.CALLS:
            error = refused(self, name, call, boxes, weights, plan, *order)
            if name == "NoPlan":
                self.assertEqual(error.at, -1)

    def test_the_edges_are_let_by(self):
        for boxes in ([(60, 1, 50)], [(1, 50, 50)], [(1, 1, 1)] * 6):
            order = [k for k in range(len(boxes)) for look in range(2)]
            awaited(boxes, [1] * len(boxes), [2] * len(boxes), order)

    def test_no_boxes(self):
        for why, boxes in NO_BOXES.items():
            with self.subTest(why):
                self.refused_by_each("NoBoxes", boxes, [1, 1], [2, 1])

    def test_no_weights(self):
        for why, weights in NO_WEIGHTS.items():
            with self.subTest(why):
                self.refused_by_each("NoWeights", BOXES, weights, [2, 1])

    def test_no_plan(self):
        for why, plan in NO_PLANS.items():
            with self.subTest(why):
                self.refused_by_each("NoPlan", BOXES, [1, 1], plan)

    def test_no_order(self):
        for why, order in NO_ORDERS.items():
            for call in (awaited, is_sorted):
                with self.subTest(why, call=call.__name__):
                    refused(self, "NoOrder", call, BOXES, [1, 1], [2, 1], order)

    def test_an_order_of_another_plan(self):
        for call in (awaited, is_sorted):
            refused(self, "NoOrder", call, BOXES, [1, 1], [0, 0], [0])
            refused(self, "NoOrder", call, BOXES, [1, 1], [1, 2], [0, 0, 1])
            refused(self, "NoOrder", call, BOXES, [1, 1], [1, 0], [])

    def test_the_first_of_several(self):
        self.refused_by_each("NoBoxes", [], [], [])
        self.refused_by_each("NoBoxes", [(1, 2, 1)], None, None)
        self.refused_by_each("NoBoxes", [(1, 2, 1)], [1], [-1])
        self.refused_by_each("NoWeights", BOXES, [0, 0], [61, 1])
        self.refused_by_each("NoWeights", BOXES, [1], [1])
        for call in (awaited, is_sorted):
            refused(self, "NoBoxes", call, [], [1], [1], [1])
            refused(self, "NoWeights", call, BOXES, [-1, 2], [2, 1], [0, 0])
            refused(self, "NoWeights", call, BOXES, None, None, None)
            self.assertEqual(refused(self, "NoPlan", call, BOXES, [1, 1], [2], [0, 0]).at, -1)
            self.assertEqual(refused(self, "NoPlan", call, BOXES, [1, 1], [61, 0], [0] * 61).at, -1)
            self.assertEqual(refused(self, "NoPlan", call, BOXES, [1, 1], None, None).at, -1)


if __name__ == "__main__":
    unittest.main()
