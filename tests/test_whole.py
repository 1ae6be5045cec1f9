"""What the document promises over the whole program."""

import importlib
import inspect
import random
import unittest
from fractions import Fraction

from hideworth.boxes import budget_judged, budget_worth, found_by, plan_cost
from hideworth.bounds import high_of, low_of
from hideworth.desk import Desk
from hideworth.finder import web_worth
from hideworth.judge import judged, standings
from hideworth.least import best_plan, least_table
from hideworth.moving import courses, moving_judged, moving_worth
from hideworth.orders import awaited, best_order, is_sorted
from hideworth.plays import average, played, whole_of
from hideworth.ratios import below, divisor, minus, over, plus, ratio, times
from hideworth.spreads import tree_spread
from hideworth.tables import best_columns, best_rows, table_judged, table_worth
from hideworth.texts import paper_text, read_paper, read_web, web_text
from hideworth.trees import is_tree, round_of, tree_worth, uneven
from hideworth.webs import costs_of, joined, look_web
from tests.apart import DOUBLE, PATH, RING, SQUARE, STAR, TREE, all_joined, some_web
from tests.asking import asked, refused
from tests.test_judge import ALONE, BOTH, GREAT
from tests.test_webs import NO_WEBS

INTERFACE = {
    "ratios": {"divisor": 2, "ratio": 2, "plus": 2, "minus": 2, "times": 2, "over": 2, "below": 2},
    "tables": {"table_worth": 1, "table_judged": 4, "best_rows": 2, "best_columns": 2},
    "boxes": {"budget_worth": 2, "budget_judged": 5, "plan_cost": 2, "found_by": 2},
    "orders": {"awaited": 4, "is_sorted": 4, "best_order": 3},
    "webs": {"look_web": 1, "joined": 3, "costs_of": 3},
    "judge": {"standings": 2, "judged": 5},
    "least": {"least_table": 3, "best_plan": 3},
    "finder": {"web_worth": 2},
    "trees": {"is_tree": 1, "round_of": 1, "tree_worth": 1, "uneven": 2},
    "moving": {"courses": 2, "moving_judged": 5, "moving_worth": 2},
    "plays": {"whole_of": 1, "played": 2, "average": 2},
    "texts": {"web_text": 1, "paper_text": 2, "read_web": 1, "read_paper": 1},
    "bounds": {"high_of": 3, "low_of": 3},
    "spreads": {"tree_spread": 1},
}

# Each function that gets a web, with all else that it gets: right for one place, and wrong.
OF_WEBS = (
    (look_web, ()), (joined, (0, 0)), (costs_of, ("walk", [0])), (costs_of, ("", None)), (standings, ("walk",)),
    (standings, ("",)), (judged, ("walk", (0, 1), [], None)), (judged, ("", (0, 1), None, None)),
    (least_table, ("walk", [1])), (least_table, ("", [])), (best_plan, ("spread", [1])), (best_plan, ("", None)),
    (web_worth, ("spread",)), (web_worth, ("",)), (is_tree, ()), (round_of, ()), (tree_worth, ()), (uneven, ([1],)),
    (uneven, ([],)), (courses, (1,)), (courses, (0,)), (moving_judged, (1, (1, 1), [], [])),
    (moving_judged, (9, (1, 1), None, None)), (moving_worth, (4,)), (moving_worth, (None,)), (web_text, ()),
    (high_of, ("walk", [([0], 1)])), (high_of, ("", None)), (low_of, ("walk", [1])), (low_of, ("", None)),
    (tree_spread, ()),
)

BOXES = [(1, 1, 2), (2, 1, 3)]
TABLE = [[3, -1], [-2, 1]]
WALKS = [([0, 1, 2], 1), ([0, 1, 0, 1, 2], 2)]
ORDER = [0, 1, 0]

# A right call of each function of the interface.
CALLS = (
    (divisor, 12, 18), (ratio, 6, -4), (plus, (1, 2), (1, 3)), (minus, (1, 2), (1, 3)), (times, (1, 2), (1, 3)),
    (over, (1, 2), (1, 3)), (below, (1, 2), (1, 3)), (table_worth, TABLE), (table_judged, TABLE, (1, 7), [3, 4], [2, 5]),
    (best_rows, TABLE, [1, 1]), (best_columns, TABLE, [1, 1]), (budget_worth, BOXES, 3),
    (budget_judged, BOXES, 3, (1, 2), [([1, 1], 1)], ([1, 1], (1, 2), [1, 1])), (plan_cost, BOXES, [2, 1]),
    (found_by, BOXES, [2, 1]), (awaited, BOXES, [1, 1], [2, 1], ORDER), (is_sorted, BOXES, [1, 1], [2, 1], ORDER),
    (best_order, BOXES, [1, 1], [2, 1]), (look_web, PATH), (joined, PATH, 0, 1), (costs_of, PATH, "walk", [0, 1, 2]),
    (standings, PATH, "walk"), (judged, PATH, "walk", (7, 1), WALKS[:1], ([0, 0, 1], {})),
    (least_table, PATH, "walk", [0, 1, 1]), (best_plan, PATH, "spread", [0, 1, 1]), (web_worth, SQUARE, "walk"),
    (is_tree, PATH), (round_of, TREE), (tree_worth, TREE), (uneven, PATH, [0, 0, 1]), (courses, PATH, 3),
    (moving_judged, PATH, 1, (1, 3), [([0], 1)], [([0], 1)]), (moving_worth, SQUARE, 3), (whole_of, WALKS),
    (played, WALKS, 1), (average, [1, 2], [3, 4]), (web_text, PATH), (paper_text, "walk", WALKS),
    (read_web, "web 2\nroad 0 1 5\n"), (read_paper, "walk 1 0 1\nwalk 2 0\n"), (high_of, PATH, "walk", WALKS),
    (low_of, PATH, "spread", [0, 1, 1]), (tree_spread, TREE),
)

# The first thing that is wrong, with all behind it wrong, too.
REFUSALS = (
    ("NoNumber", ratio, 1, 0), ("NoNumber", over, (1, 2), (0, 1)),
    ("NoTable", table_worth, [[]]), ("NoTable", table_judged, [[1], [2, 3]], (1, 2), [], []),
    ("NoTable", best_rows, [], []), ("NoTable", best_columns, [[True]], [0]),
    ("NoWeights", best_rows, TABLE, [0, 0]), ("NoWeights", best_columns, TABLE, [1]),
    ("NoBoxes", budget_worth, [(1, 2, 1)], -1), ("NoBoxes", budget_judged, [], None, (1, 2), None, None),
    ("NoBoxes", plan_cost, [(0, 1, 1)], [0]), ("NoBoxes", found_by, [(61, 1, 1)], [0]),
    ("NoBudget", budget_worth, BOXES, 61), ("NoBudget", budget_judged, BOXES, True, (1, 2), None, None),
    ("NoBoxes", awaited, [(1, 1, 51)], [], [], [9]), ("NoBoxes", is_sorted, [], [], [], [9]),
    ("NoBoxes", best_order, [(1, 1)], [], []), ("NoWeights", awaited, BOXES, [0, 0], [-1, 1], [9]),
    ("NoWeights", is_sorted, BOXES, [1], [61, 0], [9]), ("NoWeights", best_order, BOXES, [1, -1], []),
    ("NoPlan", awaited, BOXES, [1, 1], [1], [9]), ("NoPlan", is_sorted, BOXES, [1, 1], [61, 0], [9]),
    ("NoPlan", best_order, BOXES, [1, 1], [1, -1]), ("NoOrder", awaited, BOXES, [1, 1], [1, 1], [0]),
    ("NoOrder", is_sorted, BOXES, [1, 1], [1, 1], [0, 2]),
    ("NoKind", costs_of, PATH, "tree", [9]), ("NoPlan", costs_of, PATH, "walk", [9]),
    ("NoWeights", least_table, PATH, "walk", [0, 0, 0]), ("NoWeights", best_plan, PATH, "walk", None),
    ("NoTree", round_of, RING), ("NoTree", tree_worth, DOUBLE), ("NoTree", uneven, SQUARE, []),
    ("NoTree", tree_spread, RING), ("TooGreat", courses, all_joined(6), 0), ("TooGreat", moving_worth, all_joined(6), 9),
    ("TooGreat", moving_judged, all_joined(6), 0, (1, 2), None, None), ("NoTurns", courses, PATH, 0),
    ("NoTurns", moving_worth, PATH, 5), ("NoTurns", moving_judged, PATH, True, (1, 2), None, None),
    ("NoPlay", played, WALKS, 3), ("NoPlay", played, WALKS, -1), ("NoText", read_web, "web 2\n"),
    ("NoText", read_paper, "walk 1\n"), ("NoKind", paper_text, "tree", []), ("NoPaper", high_of, PATH, "walk", []),
    ("NoWeights", low_of, PATH, "walk", []),
)


class Interface(unittest.TestCase):
    def test_all_is_there_and_takes_as_many_arguments(self):
        for module, names in INTERFACE.items():
            there = importlib.import_module(f"hideworth.{module}")
            for name, count in names.items():
                call = getattr(there, name)
                inspect.signature(call).bind(*range(count))
                with self.assertRaises(TypeError):
                    inspect.signature(call).bind(*range(count + 1))
                self.assertEqual(call.__module__, f"hideworth.{module}")

    def test_the_desk(self):
        self.assertEqual(list(inspect.signature(Desk).parameters), [])
        self.assertEqual(len(inspect.signature(Desk().say).parameters), 1)

    def test_the_calls_here_are_of_all_functions(self):
        self.assertEqual({call.__name__ for call, *things in CALLS}, {name for names in INTERFACE.values() for name in names})


class Alike(unittest.TestCase):
    def test_each_function_refuses_what_is_no_web_with_the_same_road(self):
        for web, road in NO_WEBS:
            for call, more in OF_WEBS:
                with self.subTest(web=web, call=call.__name__):
                    self.assertEqual(refused(self, "NoWeb", call, web, *more).road, road)

    def test_all_functions_that_get_a_web_are_asked(self):
        asking = {call.__name__ for call, *things in CALLS if things[0] in (PATH, SQUARE, TREE)}
        self.assertEqual({call.__name__ for call, more in OF_WEBS}, asking)

    def test_too_great_and_then_no_kind(self):
        for call, more in ((standings, ()), (judged, ((1, 1), None, None)), (least_table, (None,)), (best_plan, (None,)),
                           (web_worth, ()), (high_of, (None,)), (low_of, (None,))):
            for web in GREAT:
                for kind in BOTH + ("tree",):
                    refused(self, "TooGreat", call, web, kind, *more)
            for web in (ALONE, RING, all_joined(7)):
                refused(self, "NoKind", call, web, "tree", *more)

    def test_great_webs_are_no_trouble_where_nothing_is_asked_of_small_ones(self):
        for web in GREAT:
            self.assertIsNone(look_web(web))
            self.assertEqual(joined(web, 0, 1), 1)
            web_text(web)
            is_tree(web)
            refused(self, "NoKind", costs_of, web, "tree", None)


class Ownership(unittest.TestCase):
    def test_each_function(self):
        for call, *things in CALLS:
            with self.subTest(call.__name__):
                asked(self, call, *things)

    def test_each_refusal(self):
        for name, call, *things in REFUSALS:
            with self.subTest(call.__name__, name=name):
                refused(self, name, call, *things)

    def test_what_the_desk_is_told_is_text_alone(self):
        desk = Desk()
        for row in ("web a 2", "road a 0 1 5", "names", "show a", "worth a walk", "seek a walk", "hide a walk",
                    "pay a walk 0 1", "tree a", "cut a 0", "drop a"):
            self.assertIs(type(desk.say(row)), str)


class Together(unittest.TestCase):
    def some_webs(self):
        chance = random.Random(100)
        return [ALONE, PATH, STAR, RING, DOUBLE, SQUARE, TREE] + [
            some_web(chance, chance.randint(2, 6), chance.randint(0, 5), chance.choice((3, 9))) for turn in range(6)]

    def test_from_a_webs_text_to_averages(self):
        for web in self.some_webs():
            for kind in BOTH:
                with self.subTest(web=web, kind=kind):
                    self.from_text(web_text(web), kind)

    def from_text(self, text, kind):
        web = read_web(text)
        self.assertEqual(web_text(web), text)
        worth, seeker, hider = web_worth(web, kind)
        told, again = read_paper(paper_text(kind, seeker))
        self.assertEqual((told, again), (kind, seeker))
        self.assertIsNone(judged(web, kind, worth, again, hider))
        self.assertEqual((high_of(web, kind, again), low_of(web, kind, hider[0])), (worth, worth))
        weights = [weight for plan, weight in again]
        rows = [costs_of(web, kind, plan) for plan, weight in again]
        averages = [average([row[place] for row in rows], weights) for place in range(web[0])]
        self.assertEqual(max(Fraction(*one) for one in averages), Fraction(*worth))
        whole = whole_of(again)
        self.assertEqual(whole, sum(weights))
        if whole <= 2000:
            plays = [costs_of(web, kind, played(again, number)) for number in range(whole)]
            for place in range(web[0]):
                self.assertEqual(average([costs[place] for costs in plays], [1] * whole), averages[place])
            for costs in plays:
                # Against the hider's weights each plan that is played pays the worth on average.
                self.assertEqual(average(costs, hider[0]), worth)

    def test_the_desk_tells_the_same(self):
        for web in self.some_webs():
            desk = Desk()
            for row in web_text(web).splitlines():
                verb, words = row.split(" ", 1)
                desk.say(f"{verb} w {words}")
            self.assertEqual(desk.say("show w").replace(", ", "\n") + "\n", web_text(web))
            for kind in BOTH:
                worth, seeker, (weights, table) = web_worth(web, kind)
                self.assertEqual(desk.say(f"worth w {kind}"), "/".join(map(str, worth)))
                self.assertEqual(desk.say(f"hide w {kind}"), " ".join(map(str, weights)))
                self.assertEqual(read_paper(desk.say(f"seek w {kind}").replace(", ", "\n") + "\n"), (kind, seeker))
                for row in desk.say(f"seek w {kind}").split(", "):
                    words = row.split(" ")[2:]
                    costs = costs_of(web, kind, read_paper(row + "\n")[1][0][0])
                    self.assertEqual(desk.say(" ".join(["pay", "w", kind] + words)), " ".join(map(str, costs)))

    def test_trees_at_once_and_by_finding(self):
        for web in self.some_webs():
            if is_tree(web):
                worth, paper, weights = tree_worth(web)
                self.assertEqual(web_worth(web, "walk")[0], worth)
                self.assertEqual((high_of(web, "walk", paper), low_of(web, "walk", weights)), (worth, worth))
                self.assertEqual((web_worth(web, "spread")[0], weights), tree_spread(web))
                self.assertEqual(read_paper(paper_text("walk", paper)), ("walk", paper))

    def test_tables(self):
        chance = random.Random(101)
        for turn in range(20):
            rows, columns = chance.randint(1, 12), chance.randint(1, 12)
            table = [[chance.randint(-9, 9) for j in range(columns)] for i in range(rows)]
            worth, seeker, hider = table_worth(table)
            self.assertIsNone(table_judged(table, worth, seeker, hider))
            # Whoever plays a row or a column that counts in a best mix does well against the other's.
            self.assertLessEqual({i for i in range(rows) if seeker[i]}, set(best_rows(table, hider)))
            self.assertLessEqual({j for j in range(columns) if hider[j]}, set(best_columns(table, seeker)))
            for i in best_rows(table, hider):
                self.assertEqual(average(table[i], hider), worth)

    def test_boxes_and_budgets(self):
        chance = random.Random(102)
        for turn in range(10):
            boxes = []
            for k in range(chance.randint(1, 4)):
                of = chance.randint(1, 6)
                boxes.append((chance.randint(1, 4), chance.randint(1, of), of))
            budget = chance.randint(0, 20)
            worth, mix, paper = budget_worth(boxes, budget)
            self.assertIsNone(budget_judged(boxes, budget, worth, mix, paper))
            weights = [weight for plan, weight in mix]
            cost = average([plan_cost(boxes, plan) for plan, weight in mix], weights)
            self.assertLessEqual(Fraction(*cost), budget)
            for box in range(len(boxes)):
                found = sum(weight * Fraction(*found_by(boxes, plan)[box]) for plan, weight in mix) / sum(weights)
                self.assertGreaterEqual(found, Fraction(*worth))

    def test_hiders_that_move(self):
        for web, turns in ((ALONE, 4), (PATH, 3), (RING, 2), (SQUARE, 3), (TREE, 2)):
            worth, looks, hider = moving_worth(web, turns)
            self.assertIsNone(moving_judged(web, turns, worth, looks, hider))
            weights = [weight for plan, weight in looks]
            for course in courses(web, turns):
                found = [int(any(a == b for a, b in zip(plan, course))) for plan, weight in looks]
                self.assertGreaterEqual(Fraction(*average(found, weights)), Fraction(*worth))
            for number in range(min(whole_of(hider), 500)):
                self.assertIn(played(hider, number), courses(web, turns))


if __name__ == "__main__":
    unittest.main()
