import random
import time
import unittest
from fractions import Fraction

from hideworth.finder import web_worth
from hideworth.judge import judged
from hideworth.ratios import minus, plus
from hideworth.webs import costs_of
from tests.apart import (DOUBLE, PATH, RING, SQUARE, STAR, TREE, all_joined, depths_apart, even_shares, longer, renamed,
                         some_names, some_web, standings_apart)
from tests.asking import asked, assert_fraction, assert_paper, refused
from tests.test_judge import ALONE, BOTH, FIRST, GREAT, judged_apart, right_papers
from tests.test_webs import NO_KINDS, NO_WEBS, ODD_KINDS

BIG_STAR = (7, [(0, 1, 5), (2, 0, 1), (0, 3, 9), (0, 4, 2), (5, 0, 7), (0, 6, 1000000)])
BIG_RING = (7, [(k, (k + 1) % 7, 3) for k in range(7)])


def worth_of(web, kind):
    return Fraction(*web_worth(web, kind)[0])


class Finder(unittest.TestCase):
    def told(self, web, kind):
        """The worth, when all that is promised of the answer holds."""
        answer = asked(self, web_worth, web, kind)
        self.assertEqual((type(answer), len(answer)), (tuple, 3))
        worth, seeker, hider = answer
        assert_paper(self, seeker)
        self.assertEqual([type(part) for part in hider], [list, dict])
        weights, table = hider
        self.assertTrue(all(type(number) is int for number in weights + list(table.values())))
        self.assertEqual(sorted(map(repr, table)), sorted(map(repr, standings_apart(web, kind))))
        self.assertIsNone(asked(self, judged, web, kind, worth, seeker, hider))
        self.assertIsNone(judged_apart(web, kind, worth, seeker, hider))
        return assert_fraction(self, worth)


class Worths(Finder):
    def test_one_place(self):
        for kind in BOTH:
            self.assertEqual(self.told(ALONE, kind), 0)
            worth, seeker, (weights, table) = web_worth(ALONE, kind)
            self.assertEqual(table, {FIRST: 0})
            self.assertEqual({tuple(plan) for plan, weight in seeker}, {(0,) if kind == "walk" else ()})

    def test_two_places(self):
        for length in (1, 7, 1000000):
            for kind in BOTH:
                self.assertEqual(self.told((2, [(1, 0, length)]), kind), length)

    def test_a_row(self):
        # All at its end: whatever lies on the way is come to for nothing more.
        for many in range(2, 8):
            web = (many, [(k, k + 1, 2 * k + 1) for k in range(many - 1)])
            for kind in BOTH:
                self.assertEqual(self.told(web, kind), (many - 1) ** 2)

    def test_a_row_from_its_middle(self):
        web = (5, [(0, 1, 1), (1, 2, 2), (0, 3, 3), (3, 4, 4)])
        self.assertEqual(self.told(web, "walk"), 10)
        # Ends 3 and 7 deep, weighed as 3 and 7.
        self.assertEqual(self.told(web, "spread"), (10 + Fraction(3 * 3 + 7 * 7, 10)) / 2)

    def test_stars_walked(self):
        for web in (STAR, BIG_STAR, (4, [(0, 3, 4), (1, 0, 4), (0, 2, 1)])):
            self.assertEqual(self.told(web, "walk"), sum(length for a, b, length in web[1]))

    def test_stars_spread_over(self):
        for web in (STAR, BIG_STAR):
            lengths = [length for a, b, length in web[1]]
            mean = Fraction(sum(length * length for length in lengths), sum(lengths))
            self.assertEqual(self.told(web, "spread"), (sum(lengths) + mean) / 2)

    def test_small_rings(self):
        for kind in BOTH:
            self.assertEqual(self.told(RING, kind), Fraction(3, 2))
            self.assertEqual(self.told(longer(RING, 1000000), kind), 1500000)

    def test_a_ring_of_seven(self):
        # By going round one way or the other, each place is come to after half the ring on average; hidden anywhere
        # on it but at its start, it can't be less.
        self.assertEqual(self.told(BIG_RING, "walk"), Fraction(21, 2))
        self.assertEqual(self.told(BIG_RING, "spread"), Fraction(21, 2))

    def test_all_joined(self):
        # One new place with each step: the average of 1 to 6.
        for kind in BOTH:
            self.assertEqual(self.told(all_joined(7), kind), Fraction(7, 2))
            self.assertEqual(self.told(all_joined(4, 5), kind), 10)

    def test_double_roads(self):
        shortest = (3, [(0, 1, 4), (1, 2, 3)])
        for kind in BOTH:
            self.assertEqual(self.told(DOUBLE, kind), 7)
            self.assertEqual(self.told(shortest, kind), 7)
        self.assertEqual(self.told((3, [(0, 1, 9), (0, 2, 5), (2, 0, 3), (1, 0, 2), (0, 1, 2)]), "walk"), 5)
        web = (5, SQUARE[1] + [(0, 4, 8), (4, 3, 9), (4, 0, 6), (3, 4, 1)])
        once = (5, [(0, 1, 3), (1, 2, 1), (2, 3, 4), (3, 0, 2), (0, 4, 6), (4, 3, 1)])
        for kind in BOTH:
            self.assertEqual(self.told(web, kind), self.told(once, kind))

    def test_trees(self):
        chance = random.Random(20)
        webs = [PATH, STAR, TREE] + [some_web(chance, chance.randint(2, 7), 0, 30) for turn in range(12)]
        for web in webs:
            with self.subTest(web=web):
                total = sum(length for a, b, length in web[1])
                mean = sum(share * depth for share, depth in zip(even_shares(web), depths_apart(web)))
                self.assertEqual(self.told(web, "walk"), total)
                self.assertEqual(self.told(web, "spread"), (total + mean) / 2)

    def test_as_by_the_table_of_all_plans(self):
        chance = random.Random(21)
        webs = [PATH, STAR, RING, DOUBLE, SQUARE, all_joined(4, 2)]
        webs += [some_web(chance, chance.randint(1, 4), chance.randint(0, 5)) for turn in range(25)]
        for web in webs:
            for kind in BOTH:
                with self.subTest(web=web, kind=kind):
                    self.assertEqual(self.told(web, kind), Fraction(*right_papers(web, kind)[0]))

    def test_some_webs(self):
        chance = random.Random(22)
        for turn in range(12):
            web = some_web(chance, chance.choice((5, 6, 6)), chance.choice((0, 2, 4, 9)), chance.choice((3, 1000000)))
            for kind in BOTH:
                with self.subTest(web=web, kind=kind):
                    self.told(web, kind)

    def test_no_other_worth_is_let_by(self):
        for web in (PATH, RING, SQUARE, BIG_RING):
            for kind in BOTH:
                worth, seeker, hider = web_worth(web, kind)
                for little in ((1, 1), (1, 10 ** 30)):
                    self.assertEqual(judged(web, kind, minus(worth, little), seeker, hider)[0], "place")
                    self.assertEqual(judged(web, kind, plus(worth, little), seeker, hider), ("first",))

    def test_no_place_pays_more_and_no_plan_less(self):
        for web in (SQUARE, TREE, BIG_STAR):
            for kind in BOTH:
                worth, seeker, (weights, table) = web_worth(web, kind)
                whole = sum(weight for plan, weight in seeker)
                rows = [(costs_of(web, kind, plan), weight) for plan, weight in seeker]
                sums = [sum(weight * costs[j] for costs, weight in rows) for j in range(web[0])]
                self.assertEqual(Fraction(max(sums), whole), Fraction(*worth))
                self.assertEqual(Fraction(table[FIRST], sum(weights)), Fraction(*worth))


class Alike(Finder):
    def some_webs(self):
        chance = random.Random(23)
        yield from ((chance, web) for web in (SQUARE, TREE, BIG_RING))
        for turn in range(6):
            yield chance, some_web(chance, chance.choice((4, 5, 6, 7)), chance.choice((0, 2, 5)), 40)

    def test_lengths_so_many_times(self):
        for chance, web in self.some_webs():
            for kind in BOTH:
                for times in (2, 9, 10007):
                    self.assertEqual(worth_of(longer(web, times), kind), times * worth_of(web, kind))

    def test_places_named_otherwise(self):
        for chance, web in self.some_webs():
            for kind in BOTH:
                names = some_names(chance, web[0])
                self.assertEqual(self.told(renamed(web, names), kind), self.told(web, kind))

    def test_roads_in_another_order_and_turned_about(self):
        for chance, web in self.some_webs():
            for kind in BOTH:
                roads = chance.sample(web[1], len(web[1]))
                turned = [(b, a, length) if chance.random() < 0.5 else (a, b, length) for a, b, length in roads]
                for other in (roads, turned, web[1][::-1], [(b, a, length) for a, b, length in web[1]]):
                    self.assertEqual(worth_of((web[0], other), kind), worth_of(web, kind))


class Soon(Finder):
    def test_seven_places_with_many_roads(self):
        chance = random.Random(24)
        roads = [(a, b, chance.randint(1, 1000000)) for a in range(7) for b in range(7) if a != b]
        web = (7, (roads * 3)[:120])
        for kind in BOTH:
            start = time.process_time()
            worth, seeker, hider = web_worth(web, kind)
            self.assertLess(time.process_time() - start, 10)
            self.assertIsNone(judged(web, kind, worth, seeker, hider))
            self.told(web, kind)

    def test_many_webs_of_seven_places(self):
        chance = random.Random(25)
        start = time.process_time()
        for turn in range(20):
            web = some_web(chance, 7, chance.choice((0, 1, 3, 9, 30, 114)), chance.choice((1, 3, 1000000)))
            for kind in BOTH:
                worth, seeker, hider = web_worth(web, kind)
                self.assertIsNone(judged(web, kind, worth, seeker, hider))
        self.assertLess(time.process_time() - start, 60)


class Changed(Finder):
    def test_a_web_changed_behind_is_told_as_it_is_then(self):
        roads = [(0, 1, 3)]
        web = (2, roads)
        first = web_worth(web, "walk")
        roads.append((1, 0, 2))
        self.assertEqual((first[0], web_worth(web, "walk")[0]), ((3, 1), (2, 1)))
        roads.clear()
        refused(self, "NoWeb", web_worth, web, "walk")
        self.assertEqual(first[2][1][FIRST], 3 * sum(first[2][0]))


class Refusals(Finder):
    def test_no_web_ahead_of_all_else(self):
        for web, road in NO_WEBS:
            for kind in BOTH + ("tree", ""):
                with self.subTest(web=web, kind=kind):
                    self.assertEqual(refused(self, "NoWeb", web_worth, web, kind).road, road)

    def test_too_great_ahead_of_the_kind(self):
        for web in GREAT:
            for kind in BOTH + ("tree", ""):
                refused(self, "TooGreat", web_worth, web, kind)

    def test_no_kind(self):
        for kind in NO_KINDS + ODD_KINDS:
            for web in (ALONE, RING, BIG_STAR):
                refused(self, "NoKind", web_worth, web, kind)


if __name__ == "__main__":
    unittest.main()
