import itertools
import math
import random
import unittest
from fractions import Fraction

from hideworth.boxes import budget_judged, budget_worth, found_by, plan_cost
from tests.asking import asked, numbers_in, refused

NO_BOXES = {
    "none": [],
    "seven": [(1, 1, 1)] * 7,
    "cost 0": [(0, 1, 2)],
    "cost sixty-one": [(61, 1, 2)],
    "cost below 0": [(1, 1, 2), (-1, 1, 2)],
    "no hits": [(1, 0, 2)],
    "hits below 0": [(1, -1, 2)],
    "of 0": [(1, 0, 0)],
    "of fifty-one": [(1, 1, 51)],
    "more hits than of": [(1, 3, 2)],
    "two things": [(1, 1)],
    "four things": [(1, 1, 2, 3)],
    "nothing in it": [()],
    "a truth as cost": [(True, 1, 2)],
    "a truth as hits": [(1, True, 2)],
    "a truth as of": [(1, 1, True)],
    "a text as cost": [("1", 1, 2)],
    "a text as hits": [(1, "1", 2)],
    "None as of": [(1, 1, None)],
    "a list as a box": [(1, 1, 2), [1, 1, 2]],
    "a number as a box": [1],
    "None as a box": [None],
    "a text as a box": ["112"],
    "a last one that is none": [(1, 1, 2)] * 5 + [(1, 2, 1)],
    "a tuple": ((1, 1, 2),),
    "None": None,
    "a number": 1,
    "a truth": True,
    "a text": "boxes",
    "a dict": {0: (1, 1, 2)},
}

NO_BUDGETS = (-1, 61, 10 ** 30, -(10 ** 30), True, False, None, "1", "", [], [1], (1,), (1, 1), {})

# (boxes, budget): worth
KNOWN = (
    ([(1, 1, 1)], 0, Fraction(0)),
    ([(1, 1, 1)], 1, Fraction(1)),
    ([(1, 1, 1)], 60, Fraction(1)),
    ([(1, 50, 50)], 60, Fraction(1)),
    ([(2, 1, 1)], 1, Fraction(1, 2)),
    ([(60, 1, 1)], 59, Fraction(59, 60)),
    ([(60, 1, 1)], 60, Fraction(1)),
    ([(60, 1, 50)], 60, Fraction(1, 50)),
    ([(60, 49, 50)], 30, Fraction(49, 100)),
    ([(1, 1, 2)], 0, Fraction(0)),
    ([(1, 1, 2)], 1, Fraction(1, 2)),
    ([(1, 1, 2)], 2, Fraction(3, 4)),
    ([(1, 2, 4)], 2, Fraction(3, 4)),
    ([(1, 1, 2)], 60, 1 - Fraction(1, 2) ** 60),
    ([(1, 1, 50)], 60, 1 - Fraction(49, 50) ** 60),
    ([(1, 49, 50)], 60, 1 - Fraction(1, 50) ** 60),
    ([(2, 1, 2)], 3, Fraction(5, 8)),
    ([(1, 1, 1), (1, 1, 1)], 1, Fraction(1, 2)),
    ([(1, 1, 1), (2, 1, 1)], 1, Fraction(1, 3)),
    ([(1, 1, 1), (2, 1, 1)], 3, Fraction(1)),
    ([(1, 1, 1), (2, 1, 1)], 4, Fraction(1)),
    ([(1, 1, 2), (1, 1, 2)], 2, Fraction(1, 2)),
    ([(1, 1, 2), (1, 1, 2)], 3, Fraction(5, 8)),
    ([(1, 1, 1), (1, 1, 2)], 1, Fraction(1, 3)),
    ([(1, 1, 1), (1, 1, 2)], 2, Fraction(3, 5)),
    ([(10, 1, 1)] * 6, 60, Fraction(1)),
    ([(10, 1, 1)] * 6, 59, Fraction(59, 60)),
    ([(60, 1, 50)] * 6, 60, Fraction(1, 300)),
    ([(1, 1, 2)] * 6, 60, 1 - Fraction(1, 2) ** 10),
    ([(1, 1, 50)] * 6, 0, Fraction(0)),
)


def found_apart(box, count):
    return 1 - (1 - Fraction(box[1], box[2])) ** count


def seeker_apart(boxes, budget, worth, mix):
    whole = sum(weight for plan, weight in mix)
    cost = sum(weight * sum(box[0] * n for box, n in zip(boxes, plan)) for plan, weight in mix)
    if Fraction(cost, whole) > budget:
        return False
    for k, box in enumerate(boxes):
        if sum(weight * found_apart(box, plan[k]) for plan, weight in mix) / whole < worth:
            return False
    return True


def hider_faults(boxes, budget, worth, paper):
    """Which of the three conditions of point 11 are broken."""
    weights, price, counts = paper
    price = Fraction(*price)
    faults = set()
    for (cost, hits, of), w, n in zip(boxes, weights, counts):
        hit = Fraction(hits, of)
        if n > 0 and w * hit * (1 - hit) ** (n - 1) < price * cost:
            faults.add("last look")
        if w * hit * (1 - hit) ** n > price * cost:
            faults.add("next look")
    found = sum(w * found_apart(box, n) for box, w, n in zip(boxes, weights, counts))
    cost = sum(box[0] * n for box, n in zip(boxes, counts))
    if found + price * budget - price * cost > worth * sum(weights):
        faults.add("sum")
    return faults


def judged_apart(boxes, budget, worth, mix, paper):
    if not seeker_apart(boxes, budget, Fraction(*worth), mix):
        return ("seeker",)
    return ("hider",) if hider_faults(boxes, budget, Fraction(*worth), paper) else None


def pair(fraction):
    return (fraction.numerator, fraction.denominator)


def any_boxes(chance, many, most_cost=60, most_of=50):
    boxes = []
    for k in range(many):
        of = chance.randint(1, most_of)
        boxes.append((chance.randint(1, most_cost), chance.randint(1, of), of))
    return boxes


class Plans(unittest.TestCase):
    boxes = [(3, 1, 1), (60, 1, 2), (1, 2, 6)]

    def test_cost(self):
        self.assertEqual(asked(self, plan_cost, self.boxes, [0, 0, 0]), 0)
        self.assertEqual(asked(self, plan_cost, self.boxes, [1, 0, 0]), 3)
        self.assertEqual(asked(self, plan_cost, self.boxes, [2, 1, 5]), 71)
        self.assertEqual(asked(self, plan_cost, [(60, 1, 50)] * 6, [60] * 6), 21600)
        self.assertIs(type(plan_cost([(1, 1, 1)], [7])), int)

    def test_found(self):
        self.assertEqual(asked(self, found_by, self.boxes, [0, 0, 0]), [(0, 1), (0, 1), (0, 1)])
        self.assertEqual(asked(self, found_by, self.boxes, [1, 1, 1]), [(1, 1), (1, 2), (1, 3)])
        self.assertEqual(asked(self, found_by, self.boxes, [2, 3, 2]), [(1, 1), (7, 8), (5, 9)])
        self.assertEqual(asked(self, found_by, [(1, 50, 50)], [60]), [(1, 1)])
        self.assertEqual(asked(self, found_by, [(1, 4, 6)], [60]), [(3 ** 60 - 1, 3 ** 60)])

    def test_found_by_fractions(self):
        for of in (1, 2, 7, 49, 50):
            for hits in {1, of // 2 or 1, of}:
                for count in (0, 1, 2, 31, 60):
                    with self.subTest(hits=hits, of=of, count=count):
                        told = asked(self, found_by, [(1, hits, of)], [count])
                        self.assertEqual(told, [pair(found_apart((1, hits, of), count))])
                        self.assertEqual({type(number) for number in numbers_in(told)}, {int})


class Worths(unittest.TestCase):
    def assert_solved(self, boxes, budget):
        answer = asked(self, budget_worth, boxes, budget)
        worth, mix, paper = answer
        self.assertEqual([type(part) for part in answer], [tuple, list, tuple])
        self.assertEqual([type(part) for part in paper], [list, tuple, list])
        self.assertEqual({type(number) for number in numbers_in(answer)}, {int})
        for fraction in (worth, paper[1]):
            self.assertGreaterEqual(fraction[1], 1)
            self.assertEqual(math.gcd(*fraction), 1)
        for plan, weight in mix:
            self.assertIs(type(plan), list)
            self.assertGreaterEqual(weight, 1)
        for plan in [plan for plan, weight in mix] + [paper[2]]:
            self.assertEqual(len(plan), len(boxes))
            self.assertTrue(all(0 <= count <= 60 for count in plan))
        self.assertIsNone(judged_apart(boxes, budget, worth, mix, paper))
        self.assertIsNone(asked(self, budget_judged, boxes, budget, worth, mix, paper))
        self.assertLessEqual(len(mix), len(boxes) + 1)
        if all(cost == 1 for cost, hits, of in boxes):
            self.assertLessEqual(max(plan_cost(boxes, plan) for plan, weight in mix), budget)
        return Fraction(*worth)

    def test_known_worths(self):
        for boxes, budget, worth in KNOWN:
            with self.subTest(boxes=boxes, budget=budget):
                self.assertEqual(self.assert_solved(boxes, budget), worth)

    def test_all_budgets_of_one_box(self):
        for box in ((1, 1, 1), (1, 1, 2), (1, 1, 50), (7, 3, 4), (60, 50, 50), (59, 49, 50)):
            for budget in range(61):
                with self.subTest(box=box, budget=budget):
                    self.assert_solved([box], budget)

    def test_all_budgets_of_several(self):
        for boxes in (
            [(1, 1, 1)] * 6,
            [(1, 1, 3)] * 6,
            [(1, 1, 1), (1, 1, 2), (1, 1, 50), (1, 2, 3)],
            [(1, 3, 4), (1, 1, 2)],
            [(2, 1, 2), (1, 3, 4), (3, 1, 1)],
            [(60, 1, 1), (1, 1, 50), (7, 49, 50)],
        ):
            for budget in range(61):
                with self.subTest(boxes=boxes, budget=budget):
                    self.assert_solved(boxes, budget)

    def test_costs_of_1(self):
        chance = random.Random(1)
        for k in range(120):
            boxes = any_boxes(chance, chance.randint(1, 6), 1, chance.choice((2, 5, 50)))
            with self.subTest(boxes=boxes):
                self.assert_solved(boxes, chance.randint(0, 60))

    def test_unlike_costs(self):
        chance = random.Random(2)
        for k in range(200):
            boxes = any_boxes(chance, chance.randint(1, 6), chance.choice((3, 12, 60)), chance.choice((2, 5, 50)))
            with self.subTest(boxes=boxes):
                self.assert_solved(boxes, chance.randint(0, 60))

    def test_six_boxes_and_a_budget_of_sixty(self):
        chance = random.Random(3)
        for k in range(60):
            boxes = any_boxes(chance, 6, chance.choice((1, 2, 60)), 50)
            with self.subTest(boxes=boxes):
                self.assert_solved(boxes, 60)
        self.assert_solved([(1, 49, 50), (1, 48, 49), (1, 46, 47), (1, 42, 43), (1, 40, 41), (1, 36, 37)], 60)
        self.assert_solved([(1, 1, 50), (1, 1, 49), (1, 1, 47), (1, 1, 43), (1, 1, 41), (1, 1, 37)], 60)
        self.assert_solved([(1, 1, 2), (1, 25, 50), (1, 3, 4), (1, 7, 8), (1, 15, 16), (1, 1, 1)], 60)

    def test_more_than_one_plan_of_the_same_cost_is_needed(self):
        worth, mix, paper = budget_worth([(1, 1, 1)] * 6, 3)
        self.assertEqual(worth, (1, 2))
        self.assertEqual({plan_cost([(1, 1, 1)] * 6, plan) for plan, weight in mix}, {3})

    def test_no_plan_at_all_does_better(self):
        for boxes, budget in (
            ([(1, 1, 2), (2, 1, 3)], 5), ([(1, 1, 1), (3, 2, 3)], 2), ([(5, 1, 7), (4, 3, 5)], 33),
            ([(1, 1, 1)] * 2, 3),
        ):
            worth, mix, (weights, price, counts) = budget_worth(boxes, budget)
            bound = Fraction(*worth) * sum(weights)
            chances = [[found_apart(box, n) for n in range(61)] for box in boxes]
            for plan in itertools.product(range(61), repeat=2):
                found = sum(w * chance[n] for w, chance, n in zip(weights, chances, plan))
                spent = sum(box[0] * n for box, n in zip(boxes, plan))
                self.assertLessEqual(found, bound + Fraction(*price) * (spent - budget))

    def test_more_budget_finds_no_less(self):
        boxes = [(2, 1, 2), (1, 3, 4), (3, 1, 5)]
        worths = [Fraction(*budget_worth(boxes, budget)[0]) for budget in range(61)]
        self.assertEqual(worths, sorted(set(worths)))

    def test_an_order_of_boxes_does_not_change_the_worth(self):
        boxes = [(2, 1, 2), (1, 3, 4), (3, 1, 5)]
        self.assertEqual({budget_worth(list(turned), 17)[0] for turned in itertools.permutations(boxes)},
                         {budget_worth(boxes, 17)[0]})


class Judge(unittest.TestCase):
    boxes = [(1, 1, 2), (2, 1, 1)]
    budget = 3
    # For a chance x from 1/2 to 3/4 the first box costs 4 * x - 1 on average, the second 2 * x: 3 in all by 2/3.
    worth = (2, 3)
    mix = [([2, 1], 1), ([2, 0], 1), ([1, 1], 1)]
    paper = ([2, 1], (1, 2), [1, 0])

    def told(self, mix, paper, worth=None, budget=None):
        worth = self.worth if worth is None else worth
        budget = self.budget if budget is None else budget
        return asked(self, budget_judged, self.boxes, budget, worth, mix, paper)

    def faults(self, paper, worth=None):
        return hider_faults(self.boxes, self.budget, Fraction(*(worth or self.worth)), paper)

    def test_lets_by(self):
        self.assertIsNone(self.told(self.mix, self.paper))

    def test_the_worth_alone(self):
        self.assertEqual(budget_worth(self.boxes, self.budget)[0], self.worth)
        self.assertEqual(self.told(self.mix, self.paper, (2 * 10 ** 40 + 1, 3 * 10 ** 40)), ("seeker",))
        self.assertEqual(self.told(self.mix, self.paper, (2 * 10 ** 40 - 1, 3 * 10 ** 40)), ("hider",))

    def test_the_seeker_comes_first(self):
        self.assertEqual(self.told([], None), ("seeker",))
        self.assertEqual(self.told(self.mix, None), ("hider",))
        self.assertEqual(self.told([], self.paper), ("seeker",))

    def test_the_average_cost_alone(self):
        dear = [([2, 1], 2), ([1, 1], 1)]
        self.assertEqual(self.told(dear, self.paper), ("seeker",))
        self.assertEqual(self.told([([60, 60], 1)], self.paper), ("seeker",))
        self.assertTrue(seeker_apart(self.boxes, 4, Fraction(2, 3), dear))
        self.assertEqual(self.told(dear, self.paper, budget=4), ("hider",))
        huge = 10 ** 400
        self.assertEqual(self.told([([2, 1], huge + 1), ([2, 0], huge), ([1, 1], huge)], self.paper), ("seeker",))

    def test_the_first_box_alone_found_too_seldom(self):
        self.assertEqual(self.told([([1, 1], 2), ([1, 0], 1)], self.paper), ("seeker",))

    def test_the_last_box_alone_found_too_seldom(self):
        self.assertEqual(self.told([([2, 1], 1), ([2, 0], 1)], self.paper), ("seeker",))
        self.assertEqual(self.told([([2, 0], 1)], self.paper), ("seeker",))

    def test_a_look_worth_just_its_price_may_be_done_or_not(self):
        for counts in ([1, 0], [1, 1], [2, 0], [2, 1]):
            with self.subTest(counts=counts):
                self.assertIsNone(self.told(self.mix, ([2, 1], (1, 2), counts)))

    def test_the_last_look_alone_too_dear(self):
        for counts in ([3, 0], [60, 1], [1, 2], [2, 60]):
            with self.subTest(counts=counts):
                paper = ([2, 1], (1, 2), counts)
                self.assertEqual(self.faults(paper), {"last look"})
                self.assertEqual(self.told(self.mix, paper), ("hider",))

    def test_the_next_look_alone_too_cheap(self):
        for paper in (([2, 1], (1, 2), [0, 0]), ([2, 1], (1, 2), [0, 1])):
            with self.subTest(paper=paper):
                self.assertEqual(self.faults(paper), {"next look"})
                self.assertEqual(self.told(self.mix, paper), ("hider",))

    def test_the_sum_alone_too_great(self):
        for worth in ((1, 2), (0, 1), (-5, 1), (2 * 10 ** 900 - 1, 3 * 10 ** 900)):
            with self.subTest(worth=worth):
                self.assertEqual(self.faults(self.paper, worth), {"sum"})
                self.assertEqual(self.told(self.mix, self.paper, worth), ("hider",))
        self.assertEqual(self.faults(([0, 1], (0, 1), [0, 1])), {"sum"})
        self.assertEqual(self.told(self.mix, ([0, 1], (0, 1), [0, 1])), ("hider",))

    def test_no_look_ahead_is_asked_of_a_count_of_0(self):
        # One look less than none isn't asked for: such a box's weight may be as low as 0.
        boxes, mix = [(1, 1, 2), (1, 1, 2)], [([0, 0], 1)]
        self.assertIsNone(asked(self, budget_judged, boxes, 0, (0, 1), mix, ([0, 2], (1, 1), [0, 0])))
        self.assertIsNone(asked(self, budget_judged, boxes, 0, (0, 1), mix, ([1, 1], (1, 1), [0, 0])))

    def test_a_look_that_never_misses(self):
        boxes, mix = [(1, 1, 1), (2, 3, 3)], [([1, 1], 1)]
        for paper in (([1, 1], (0, 1), [1, 1]), ([5, 1], (0, 1), [60, 60]), ([2, 4], (2, 1), [1, 1])):
            with self.subTest(paper=paper):
                self.assertIsNone(asked(self, budget_judged, boxes, 3, (1, 1), mix, paper))
        for paper in (([1, 1], (0, 1), [0, 1]), ([2, 3], (2, 1), [1, 1]), ([2, 4], (2, 1), [2, 1])):
            with self.subTest(paper=paper):
                self.assertEqual(asked(self, budget_judged, boxes, 3, (1, 1), mix, paper), ("hider",))
        self.assertEqual(asked(self, budget_judged, boxes, 4, (1, 1), mix, ([2, 4], (2, 1), [1, 1])), ("hider",))

    def test_more_plans_than_budget_worth_would_tell_are_let_by(self):
        self.assertIsNone(self.told(self.mix * 10, self.paper))

    def test_weights_and_price_of_whatever_size(self):
        huge = 10 ** 3000
        self.assertIsNone(self.told([(plan, weight * huge) for plan, weight in self.mix], self.paper))
        self.assertIsNone(self.told(self.mix, ([2 * huge, huge], (huge // 2, 1), [1, 0])))
        self.assertEqual(self.told(self.mix, ([2 * huge, huge + 1], (huge // 2, 1), [1, 0])), ("hider",))
        self.assertEqual(self.told(self.mix, ([2, 1], (huge - 1, 2 * huge), [1, 0])), ("hider",))
        self.assertEqual(self.told(self.mix, ([2, 1], (huge + 1, 2 * huge), [1, 0])), ("hider",))

    def test_no_mix(self):
        good = ([2, 1], 1)
        rest = [([2, 0], 1), ([1, 1], 1)]
        ones = {
            "weight 0": ([2, 1], 0), "weight below 0": ([2, 1], -1), "a truth": ([2, 1], True),
            "a text as weight": ([2, 1], "1"), "None as weight": ([2, 1], None), "a list": [[2, 1], 1],
            "plan alone": ([2, 1],), "three things": ([2, 1], 1, 1), "nothing": (), "None": None, "a number": 1,
            "a text": "ab", "turned": (1, [2, 1]), "a tuple as plan": ((2, 1), 1), "a short plan": ([2], 1),
            "a long plan": ([2, 1, 0], 1), "an empty plan": ([], 1), "a count below 0": ([2, -1], 1),
            "a count of sixty-one": ([61, 1], 1), "a truth as count": ([2, True], 1), "None as plan": (None, 1),
            "a text as count": ([2, "1"], 1), "a number as plan": (2, 1), "None as count": ([None, 1], 1),
            "a text as plan": ("21", 1), "a list as count": ([[2], 1], 1), "a fraction as weight": ([2, 1], (1, 1)),
        }
        self.assertIsNone(self.told([good] + rest, self.paper))
        for name, one in ones.items():
            with self.subTest(name):
                self.assertEqual(self.told([one] + rest, self.paper), ("seeker",))
                self.assertEqual(self.told([good] + rest + [one], self.paper), ("seeker",))
                self.assertEqual(self.told([good] + rest + [one], self.paper, (-9, 1), 60), ("seeker",))
        for bad in ([], None, 0, True, "mix", "", (), tuple([good] + rest), good, [[]], [[good] + rest]):
            with self.subTest(bad=bad):
                self.assertEqual(self.told(bad, self.paper), ("seeker",))

    def test_no_hider_paper(self):
        weights, price, counts = self.paper
        papers = {
            "None": None, "a number": 1, "a truth": True, "a text": "paper", "nothing": (), "an empty list": [],
            "a list": [weights, price, counts], "two things": (weights, price),
            "four things": (weights, price, counts, counts), "turned": (counts, price, weights),
        }
        for name, bad in {
            "none": [], "short": [2], "long": [2, 1, 0], "below 0": [2, -1], "all 0": [0, 0], "a truth": [2, True],
            "a text in it": [2, "1"], "None in it": [2, None], "a tuple": (2, 1), "None": None, "a number": 2,
            "a text": "21",
        }.items():
            papers["weights " + name] = (bad, price, counts)
        for name, bad in {
            "not in lowest terms": (2, 4), "bottom 0": (1, 0), "bottom below 0": (-1, -2), "below 0": (-1, 2),
            "a list": [1, 2], "one thing": (1,), "three things": (1, 2, 1), "None": None, "a number": 1,
            "a text": "1/2", "a truth": True, "a truth as top": (True, 2), "None as bottom": (1, None),
            "a text as top": ("1", 2), "empty": (),
        }.items():
            papers["price " + name] = (weights, bad, counts)
        for name, bad in {
            "none": [], "short": [1], "long": [1, 0, 0], "below 0": [1, -1], "a truth": [True, 0],
            "an untruth": [1, False], "a tuple": (1, 0), "None": None, "a number": 1, "a text in it": [1, "0"],
            "None in it": [1, None], "a text": "10",
        }.items():
            papers["counts " + name] = (weights, price, bad)
        for name, bad in papers.items():
            with self.subTest(name):
                self.assertEqual(self.told(self.mix, bad), ("hider",))
                self.assertEqual(self.told(None, bad), ("seeker",))

    def test_forms_that_would_be_right_by_their_sums(self):
        boxes, mix = [(1, 1, 1)], [([1], 1)]
        self.assertIsNone(budget_judged(boxes, 1, (1, 1), mix, ([1], (0, 1), [60])))
        self.assertIsNone(budget_judged(boxes, 1, (1, 1), mix, ([1], (1, 1), [1])))
        for paper in (([1], (0, 1), [61]), ([1], (0, 2), [1]), ([1], (2, 2), [1]), ([1], (-1, 1), [1]),
                      ([True], (0, 1), [1]), ([1], (0, True), [1]), ([1], (False, 1), [1]), ([1], (0, 1), [True]),
                      ([0], (0, 1), [1]), ([1, 0], (0, 1), [1]), ([1], (0, 1), [1, 7]), ([1], (0, 1), (1,)),
                      ((1,), (0, 1), [1]), ([1], [0, 1], [1]), [[1], (0, 1), [1]]):
            with self.subTest(paper=paper):
                self.assertEqual(asked(self, budget_judged, boxes, 1, (1, 1), mix, paper), ("hider",))
        for bad in ([([1], True)], [([True], 1)], [([1], 1), ([1], True)], [([1], 1), ([1], 0)], [([1, 5], 1)],
                    [((1,), 1)], [[[1], 1]], (([1], 1),), [([1], 2), ([1], -1)]):
            with self.subTest(mix=bad):
                self.assertEqual(asked(self, budget_judged, boxes, 1, (1, 1), bad, ([1], (0, 1), [1])), ("seeker",))
        self.assertEqual(budget_judged([(1, 1, 2)], 60, (1, 2), [([61], 1), ([1], 60)], None), ("seeker",))
        for price in ((0, -1), (1, 0), (0, 0)):
            with self.subTest(price=price):
                self.assertEqual(budget_judged(boxes, 0, (0, 1), [([0], 1)], ([1], price, [0])), ("hider",))

    def test_against_the_judge_by_fractions(self):
        chance = random.Random(4)
        told = []
        for k in range(1500):
            boxes = any_boxes(chance, chance.randint(1, 3), 4, 5)
            budget = chance.randint(0, 12)
            worth, mix, (weights, price, counts) = budget_worth(boxes, budget)
            place = chance.randrange(len(boxes))
            turn = chance.randrange(8)
            if turn == 0:
                counts[place] += 1
            if turn == 1:
                counts[place] = max(0, counts[place] - 1)
            if turn == 2:
                weights[place] += 1
            if turn == 3:
                price = pair(Fraction(*price) + Fraction(1, chance.randint(1, 99)))
            if turn == 4:
                worth = pair(Fraction(*worth) + Fraction(chance.choice((-1, 1)), chance.randint(1, 999)))
            if turn == 5:
                mix[0][0][place] += 1
            if turn == 6:
                mix[0][0][place] = max(0, mix[0][0][place] - 1)
            paper = (weights, price, counts)
            answer = budget_judged(boxes, budget, worth, mix, paper)
            self.assertEqual(answer, judged_apart(boxes, budget, worth, mix, paper))
            told.append(answer)
        for answer in (None, ("seeker",), ("hider",)):
            self.assertGreater(told.count(answer), 100)


class Refusals(unittest.TestCase):
    def test_no_boxes_ahead_of_all_else(self):
        for name, bad in NO_BOXES.items():
            with self.subTest(name):
                for plan in ([1], [], None):
                    refused(self, "NoBoxes", plan_cost, bad, plan)
                    refused(self, "NoBoxes", found_by, bad, plan)
                for budget in (1, 61, None):
                    refused(self, "NoBoxes", budget_worth, bad, budget)
                    refused(self, "NoBoxes", budget_judged, bad, budget, (1, 2), [([1], 1)], ([1], (0, 1), [1]))
                    refused(self, "NoBoxes", budget_judged, bad, budget, (1, 2), None, None)

    def test_no_budget_behind_it(self):
        for bad in NO_BUDGETS:
            with self.subTest(bad=bad):
                refused(self, "NoBudget", budget_worth, [(1, 1, 2)], bad)
                refused(self, "NoBudget", budget_judged, [(1, 1, 2)], bad, (1, 2), [([1], 1)], ([1], (0, 1), [1]))
                refused(self, "NoBudget", budget_judged, [(1, 1, 2)], bad, (1, 2), None, None)

    def test_boxes_and_budgets_at_their_bounds(self):
        for boxes in ([(60, 50, 50)], [(1, 1, 1)], [(60, 1, 50)] * 6, [(1, 1, 50)] * 6):
            for budget in (0, 60):
                with self.subTest(boxes=boxes, budget=budget):
                    self.assertEqual(len(budget_worth(boxes, budget)), 3)


if __name__ == "__main__":
    unittest.main()
