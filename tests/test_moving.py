import copy
import itertools
import random
import time
import unittest
from fractions import Fraction

from hideworth.moving import courses, moving_judged, moving_worth
from hideworth.ratios import minus, plus
from hideworth.tables import table_worth
from tests.apart import DOUBLE, PATH, RING, SQUARE, STAR, TREE, all_joined, is_plain, renamed, road_apart, some_web
from tests.asking import asked, assert_fraction, assert_paper, refused
from tests.test_judge import ALONE, GREAT, ODD
from tests.test_webs import MANY_ROADS, NO_WEBS

TWO = (2, [(0, 1, 1)])
KITE = (5, [(0, 1, 1), (0, 3, 1), (1, 2, 1), (1, 3, 1), (1, 4, 1), (2, 3, 1), (2, 4, 1)])
RING_OF_FIVE = (5, [(k, (k + 1) % 5, 1) for k in range(5)])
STAR_OF_FIVE = (5, [(2, k, 3) for k in (0, 1, 3, 4)])
ROW_OF_FIVE = (5, [(k, k + 1, 9) for k in range(4)])
SIX = ((6, [(k, k + 1, 1) for k in range(5)]), all_joined(6), all_joined(7)) + GREAT
NO_TURNS = (0, 5, -1, 60, 10 ** 29, -10 ** 29, True, False, None, "2", "", [1], (1,), [], {})


def courses_apart(web, turns):
    return [list(one) for one in itertools.product(range(web[0]), repeat=turns)
            if all(a == b or road_apart(web, a, b) for a, b in zip(one, one[1:]))]


def meets(one, other):
    return any(a == b for a, b in zip(one, other))


def is_share_apart(web, turns, share, moving):
    if type(share) is not tuple or len(share) != 2 or type(share[0]) is not list or not is_plain(share[1]):
        return False
    if share[1] < 1 or not all(is_plain(place) for place in share[0]):
        return False
    if moving:
        return share[0] in courses_apart(web, turns)
    return len(share[0]) == turns and all(place in range(web[0]) for place in share[0])


def judged_apart(web, turns, worth, looks, hider):
    for name, paper in (("looks", looks), ("courses", hider)):
        if type(paper) is not list or not paper:
            return (name, 0)
        for k, share in enumerate(paper):
            if not is_share_apart(web, turns, share, name == "courses"):
                return (name, k)
    worth = Fraction(*worth)
    for course in courses_apart(web, turns):
        found = sum(weight for plan, weight in looks if meets(plan, course))
        if Fraction(found, sum(weight for plan, weight in looks)) < worth:
            return ("course", course)
    for one in itertools.product(range(web[0]), repeat=turns):
        found = sum(weight for plan, weight in hider if meets(plan, one))
        if Fraction(found, sum(weight for plan, weight in hider)) > worth:
            return ("look", list(one))
    return None


def webs_of(many):
    """One web for each way in which so many places can be joined, but for their names."""
    pairs = list(itertools.combinations(range(many), 2))
    seen = set()
    for count in range(many - 1, len(pairs) + 1):
        for ends in itertools.combinations(pairs, count):
            least = min(tuple(sorted(tuple(sorted((names[a], names[b]))) for a, b in ends))
                        for names in itertools.permutations(range(many)))
            come = {0}
            for turn in range(many):
                come |= {place for pair in ends if set(pair) & come for place in pair}
            if least not in seen and len(come) == many:
                seen.add(least)
                yield (many, [(a, b, 1) for a, b in ends])


class Courses(unittest.TestCase):
    def told(self, web, turns):
        told = asked(self, courses, web, turns)
        self.assertIs(type(told), list)
        self.assertTrue(all(type(course) is list and all(map(is_plain, course)) for course in told))
        return told

    def test_one_place(self):
        for turns in range(1, 5):
            self.assertEqual(self.told(ALONE, turns), [[0] * turns])

    def test_by_hand(self):
        self.assertEqual(self.told(TWO, 2), [[0, 0], [0, 1], [1, 0], [1, 1]])
        self.assertEqual(self.told(PATH, 1), [[0], [1], [2]])
        self.assertEqual(self.told(PATH, 2), [[0, 0], [0, 1], [1, 0], [1, 1], [1, 2], [2, 1], [2, 2]])
        self.assertEqual(self.told(DOUBLE, 2), self.told(PATH, 2))
        self.assertEqual(self.told((3, [(0, 2, 1), (2, 1, 1)]), 2), [
            [0, 0], [0, 2], [1, 1], [1, 2], [2, 0], [2, 1], [2, 2]])

    def test_five_places(self):
        self.assertEqual(self.told(RING_OF_FIVE, 1), [[0], [1], [2], [3], [4]])
        self.assertEqual(len(self.told(RING_OF_FIVE, 4)), 5 * 27)
        self.assertEqual(len(self.told(all_joined(5), 4)), 625)

    def test_all_of_them_once_in_the_order_of_lists(self):
        for web in (TWO, PATH, STAR, RING, SQUARE, TREE, KITE, MANY_ROADS, STAR_OF_FIVE, all_joined(5)):
            for turns in range(1, 5):
                told = self.told(web, turns)
                self.assertEqual(told, courses_apart(web, turns))
                self.assertEqual(told, sorted(told))
                self.assertEqual(len(told), len(set(map(tuple, told))))


class Worths(unittest.TestCase):
    def told(self, web, turns, once=False):
        answer = moving_worth(web, turns) if once else asked(self, moving_worth, web, turns)
        self.assertEqual((type(answer), len(answer)), (tuple, 3))
        worth, looks, hider = answer
        assert_paper(self, looks)
        assert_paper(self, hider)
        self.assertIsNone(asked(self, moving_judged, web, turns, worth, looks, hider))
        value = assert_fraction(self, worth)
        self.assertTrue(0 <= value <= 1)
        return value

    def test_one_place(self):
        for turns in range(1, 5):
            self.assertEqual(self.told(ALONE, turns), 1)
            worth, looks, hider = moving_worth(ALONE, turns)
            self.assertEqual({tuple(plan) for plan, weight in looks + hider}, {(0,) * turns})

    def test_one_turn(self):
        for web in (ALONE, TWO, PATH, STAR, RING, SQUARE, TREE, KITE, all_joined(5), MANY_ROADS):
            self.assertEqual(self.told(web, 1), Fraction(1, web[0]))

    def test_all_joined(self):
        # Each turn by itself finds once in so many places.
        for many in range(1, 6):
            for turns in range(1, 5):
                self.assertEqual(self.told(all_joined(many), turns, True), 1 - Fraction(many - 1, many) ** turns)

    def test_two_turns_on_three_places(self):
        self.assertEqual(self.told(PATH, 2), Fraction(3, 5))
        self.assertEqual(self.told(STAR, 2), Fraction(3, 5))

    def test_as_by_the_table(self):
        webs = [(web, turns) for web in (ALONE, TWO) for turns in (1, 2, 3)]
        webs += [(web, turns) for web in (PATH, STAR, RING, DOUBLE) for turns in (1, 2)]
        for web, turns in webs:
            every = itertools.product(range(web[0]), repeat=turns)
            hiding = courses_apart(web, turns)
            table = [[0 if meets(looks, course) else 1 for course in hiding] for looks in every]
            self.assertEqual(self.told(web, turns), 1 - Fraction(*table_worth(table)[0]))

    def test_small_webs(self):
        for many in range(1, 5):
            for web in webs_of(many):
                for turns in range(1, 5):
                    with self.subTest(web=web, turns=turns):
                        self.told(web, turns)
                        worth, looks, hider = moving_worth(web, turns)
                        if turns < 4:
                            self.assertIsNone(judged_apart(web, turns, worth, looks, hider))

    def test_five_places(self):
        webs = list(webs_of(5))
        self.assertEqual(len(webs), 21)
        for web in webs:
            for turns in range(1, 4):
                with self.subTest(web=web, turns=turns):
                    self.told(web, turns, True)

    def test_five_places_and_four_turns(self):
        for web in webs_of(5):
            with self.subTest(web=web):
                self.told(web, 4, True)

    def test_five_places_and_four_turns_are_answered_soon(self):
        for web in (KITE, all_joined(5), MANY_ROADS, ROW_OF_FIVE, STAR_OF_FIVE):
            start = time.process_time()
            moving_worth(web, 4)
            self.assertLess(time.process_time() - start, 30)
        worth, looks, hider = moving_worth(RING_OF_FIVE, 4)
        self.assertIsNone(judged_apart(RING_OF_FIVE, 4, worth, looks, hider))

    def test_more_turns_find_no_less(self):
        for web in (TWO, PATH, RING, SQUARE, ROW_OF_FIVE, STAR_OF_FIVE):
            worths = [self.told(web, turns, True) for turns in range(1, 5)]
            self.assertEqual(worths, sorted(worths))

    def test_places_named_otherwise(self):
        # Place 0, too: nothing hangs on where anyone begins.
        chance = random.Random(40)
        for web in (PATH, SQUARE, TREE, ROW_OF_FIVE, STAR_OF_FIVE, KITE):
            for turns in (1, 2, 3):
                names = chance.sample(range(web[0]), web[0])
                self.assertEqual(self.told(renamed(web, names), turns, True), self.told(web, turns, True))
        self.assertEqual(self.told(renamed(KITE, [4, 2, 0, 1, 3]), 4, True), self.told(KITE, 4, True))

    def test_lengths_and_double_roads_change_nothing(self):
        for turns in (1, 2, 3):
            self.assertEqual(moving_worth(DOUBLE, turns), moving_worth((3, [(1, 2, 1), (1, 0, 7)]), turns))
            self.assertEqual(moving_worth(MANY_ROADS, turns), moving_worth(RING_OF_FIVE, turns))

    def test_no_other_worth_is_let_by(self):
        for web in (ALONE, TWO, PATH, SQUARE, STAR_OF_FIVE):
            for turns in (1, 2, 3):
                worth, looks, hider = moving_worth(web, turns)
                for little in ((1, 1), (1, 10 ** 30)):
                    self.assertEqual(moving_judged(web, turns, plus(worth, little), looks, hider)[0], "course")
                    self.assertEqual(moving_judged(web, turns, minus(worth, little), looks, hider)[0], "look")

    def test_a_web_changed_behind_is_told_as_it_is_then(self):
        web = (3, list(PATH[1]))
        first = moving_worth(web, 2)
        many = len(courses(web, 2))
        web[1].append((0, 2, 1))
        self.assertEqual((first[0], moving_worth(web, 2)[0]), ((3, 5), (5, 9)))
        self.assertEqual((many, len(courses(web, 2))), (7, 9))


# Papers for the worth 3/5 of PATH with two turns.
LOOKS = [([0, 1], 1), ([1, 0], 1), ([1, 2], 1), ([2, 1], 1), ([0, 2], 2), ([2, 0], 2), ([1, 1], 2)]
HIDER = [([0, 0], 2), ([2, 2], 2), ([0, 1], 1), ([1, 0], 1), ([1, 2], 1), ([2, 1], 1), ([1, 1], 2)]


class Judge(unittest.TestCase):
    def found(self, answer, web, turns, worth, looks, hider):
        told = asked(self, moving_judged, web, turns, worth, looks, hider)
        self.assertEqual(told, answer)
        if answer is not None:
            self.assertEqual([type(part) for part in told], [type(part) for part in answer])
        self.assertEqual(judged_apart(web, turns, worth, looks, hider), answer)

    def test_right_papers(self):
        self.found(None, ALONE, 1, (1, 1), [([0], 1)], [([0], 1)])
        self.found(None, ALONE, 4, (1, 1), [([0] * 4, 5), ([0] * 4, 2)], [([0] * 4, 10 ** 60)])
        self.found(None, TWO, 1, (1, 2), [([0], 1), ([1], 1)], [([0], 1), ([1], 1)])
        self.found(None, TWO, 1, (1, 2), [([0], 10 ** 50), ([1], 10 ** 50)], [([1], 2), ([0], 1), ([0], 1)])
        every = [[0, 0], [0, 1], [1, 0], [1, 1]]
        self.found(None, TWO, 2, (3, 4), [(one, 1) for one in every], [(one, 7) for one in every])
        self.found(None, PATH, 2, (3, 5), LOOKS, HIDER)

    def test_papers_that_are_no_list_or_empty(self):
        looks, hider = [([0], 1), ([1], 1)], [([0], 1), ([1], 1)]
        for paper in (None, True, 0, 1, "", "looks", (), tuple(looks), {}, {0: looks[0]}, []):
            self.found(("looks", 0), TWO, 1, (1, 2), paper, hider)
            self.found(("courses", 0), TWO, 1, (1, 2), looks, paper)
            self.found(("looks", 0), TWO, 1, (5, 1), paper, paper)

    def test_a_tuple_that_is_none(self):
        right = [([0, 1], 1), ([1, 0], 2), ([2, 2], 3)]
        shares = [*ODD, [[0, 1], 1], ([0, 1],), ([0, 1], 1, 1), (1, [0, 1]), ((0, 1), 1), {0: [0, 1], 1: 1}]
        shares += [([0, 1], weight) for weight in (0, -1, True, None, "1", [1], (1, 1), {}, -10 ** 40)]
        shares += [(other, 1) for other in (None, 0, True, "01", {}, {0: 0, 1: 1}, [], [0], [0, 1, 2], [0, 0, 0, 0])]
        shares += [([0, odd], 1) for odd in (None, True, False, "1", [1], (1,), {}, -1, 3, 10 ** 29)]
        shares += [([odd, 1], 1) for odd in (None, True, False, "1", [1], (1,), {}, -1, 3, 10 ** 29)]
        for k in range(3):
            for share in shares:
                paper = copy.deepcopy(right)
                paper[k] = share
                with self.subTest(share=share, k=k):
                    self.found(("looks", k), PATH, 2, (1, 2), paper, None)
                    self.found(("courses", k), PATH, 2, (1, 2), right, paper)

    def test_a_course_that_is_none(self):
        looks = [([0, 2], 1), ([2, 0], 1)]
        for course in ([0, 2], [2, 0]):
            # As looks they may go anywhere.
            self.found(("courses", 1), PATH, 2, (9, 1), looks, [([0, 1], 1), (course, 1), ([0, 2], 0)])
        self.found(("courses", 0), TREE, 4, (0, 1), [([0] * 4, 1)], [([0, 1, 4, 0], 1)])
        self.found(("courses", 0), TREE, 4, (0, 1), [([0] * 4, 1)], [([0, 3, 1, 1], 1)])
        # Wrong in its form behind one that is no course, and the other way about.
        self.found(("courses", 0), PATH, 2, (0, 1), looks, [([0, 2], 1), None])
        self.found(("courses", 0), PATH, 2, (0, 1), looks, [None, ([0, 2], 1)])

    def test_the_first_of_several_tuples(self):
        self.found(("looks", 1), TWO, 1, (1, 2), [([0], 1), ([2], 1), None], None)
        self.found(("courses", 2), TWO, 1, (1, 2), [([0], 1)], [([0], 1), ([1], 1), ([1], 0), None])

    def test_a_course_not_found_enough(self):
        self.found(("course", [1]), TWO, 1, (1, 2), [([0], 1)], [([0], 1), ([1], 1)])
        self.found(("course", [0]), TWO, 1, (1, 2), [([0], 1), ([1], 2)], [([0], 1), ([1], 1)])
        self.found(("course", [1]), TWO, 1, (1, 2), [([0], 10 ** 30), ([1], 10 ** 30 - 1)], [([0], 1), ([1], 1)])
        self.found(("course", [0]), TWO, 1, (2, 1), [([0], 1), ([1], 1)], [([0], 1), ([1], 1)])
        # The first course of several that are not found.
        self.found(("course", [1, 1]), PATH, 2, (1, 2), [([0, 0], 1)], HIDER)
        self.found(("course", [0, 0]), PATH, 2, (3, 5), LOOKS + [([1, 1], 1)], HIDER)
        self.found(("course", [1, 1]), PATH, 2, (3, 5), LOOKS + [([0, 0], 1)], HIDER)

    def test_lists_that_are_no_courses_need_not_be_found(self):
        # [0, 2] is not met, but it can't be gone.
        self.found(("look", [0, 0]), PATH, 2, (1, 2), [([1, 1], 1), ([2, 0], 1)], [([0, 0], 1)])
        self.found(("course", [0, 2]), RING, 2, (1, 2), [([1, 1], 1), ([2, 0], 1)], [([0, 0], 1)])

    def test_a_list_of_looks_that_finds_too_much(self):
        looks = [([0], 1), ([1], 1)]
        self.found(("look", [0]), TWO, 1, (1, 2), looks, [([0], 2), ([1], 1)])
        self.found(("look", [1]), TWO, 1, (1, 2), looks, [([0], 1)] + [([1], 1)] * 2)
        self.found(("look", [0]), TWO, 1, (0, 1), looks, [([0], 1), ([1], 1)])
        self.found(("look", [0]), TWO, 1, (-1, 1), looks, [([0], 1), ([1], 1)])
        self.found(("look", [0]), TWO, 1, (10 ** 30 - 1, 2 * 10 ** 30), looks, [([0], 1), ([1], 1)])
        # Looks that are no course find, too.
        self.found(("look", [0, 2]), PATH, 2, (0, 1), [([1, 1], 1)], [([2, 2], 1)])

    def test_the_first_thing_of_several(self):
        looks = [([0], 1), ([1], 1)]
        self.found(("looks", 0), TWO, 1, (0, 1), [([0], 0)], [([0], 0)])
        self.found(("courses", 0), TWO, 1, (1, 1), [([0], 1)], [([0], 0)])
        self.found(("course", [1]), TWO, 1, (1, 2), [([0], 1)], [([0], 1)])
        self.found(("look", [0]), TWO, 1, (1, 2), looks, [([0], 1)])

    def test_damaged_papers_as_told_apart(self):
        chance = random.Random(41)
        seen = {}
        for web, turns in ((TWO, 2), (PATH, 2), (RING, 3), (SQUARE, 2), (STAR_OF_FIVE, 2)):
            answer = moving_worth(web, turns)
            for turn in range(80):
                worth, looks, hider = copy.deepcopy(answer)
                self.damage(chance, web, turns, chance.choice((looks, hider)))
                if chance.random() < 0.2:
                    worth = chance.choice((plus, minus))(worth, (1, chance.choice((1, 9, 10 ** 20))))
                told = moving_judged(web, turns, worth, looks, hider)
                name = told and told[0]
                seen[name] = seen.get(name, 0) + 1
                with self.subTest(web=web, turns=turns, worth=worth, looks=looks, hider=hider):
                    self.assertEqual(told, judged_apart(web, turns, worth, looks, hider))
        self.assertLessEqual({"looks", "courses", "course", "look"}, set(seen))
        self.assertGreater(min(seen[name] for name in ("looks", "courses", "course", "look")), 10)

    def damage(self, chance, web, turns, paper):
        k = chance.randrange(len(paper))
        way = chance.randrange(5)
        if way == 0:
            paper[k] = (paper[k][0], chance.choice((0, 1, 2, 99, True, None)))
        elif way == 1:
            paper[k][0][chance.randrange(turns)] = chance.choice((0, 1, web[0] - 1, web[0], -1, None, True))
        elif way == 2:
            paper.pop(k)
        elif way == 3:
            paper[k][0].append(0)
        else:
            paper.insert(k, ([chance.randrange(web[0]) for turn in range(turns)], chance.choice((1, 5, 10 ** 30))))


class Refusals(unittest.TestCase):
    def refused_by_each(self, name, web, turns):
        error = refused(self, name, courses, web, turns)
        roads = [getattr(error, "road", None)]
        roads.append(getattr(refused(self, name, moving_worth, web, turns), "road", None))
        for papers in (([([0], 1)], [([0], 1)]), ([], None), (None, {}), ([([0] * 4, 1)], [([0] * 4, 1)])):
            roads.append(getattr(refused(self, name, moving_judged, web, turns, (1, 1), *papers), "road", None))
        self.assertEqual(len(set(roads)), 1)
        return roads[0]

    def test_no_web_ahead_of_all_else(self):
        for web, road in NO_WEBS:
            for turns in (1, 4, 0, 5):
                with self.subTest(web=web, turns=turns):
                    self.assertEqual(self.refused_by_each("NoWeb", web, turns), road)

    def test_too_great_ahead_of_the_turns(self):
        for web in SIX:
            for turns in (1, 4, 0, 5, -1):
                self.refused_by_each("TooGreat", web, turns)

    def test_no_turns(self):
        for turns in NO_TURNS:
            for web in (ALONE, PATH, all_joined(5)):
                with self.subTest(web=web, turns=turns):
                    self.refused_by_each("NoTurns", web, turns)

    def test_five_places_are_not_too_great(self):
        self.assertEqual(moving_judged(all_joined(5), 4, (1, 1), [], None), ("looks", 0))


if __name__ == "__main__":
    unittest.main()
