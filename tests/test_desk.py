import random
import time
import unittest

from hideworth import errors
from hideworth.desk import Desk
from hideworth.finder import web_worth
from hideworth.judge import judged
from hideworth.least import least_table
from hideworth.texts import paper_text, read_paper, web_text
from hideworth.trees import tree_worth
from hideworth.webs import costs_of
from tests.apart import DOUBLE, PATH, RING, SQUARE, STAR, TREE, all_joined, some_web
from tests.asking import NAMES
from tests.test_judge import ALONE, BOTH
from tests.test_webs import LONG_PATH, NO_SPREADS, NO_WALKS, NO_WEBS, SPREADS, WALKS

FIGURES = "9" * 2000
VERBS = ("web", "road", "cut", "show", "names", "worth", "seek", "hide", "pay", "tree", "drop")
NO_NUMBERS = ("", "a", "-1", "+1", "01", "00", "1.0", "1_0", "0x1", "1e3", "1\n", "\t1", "1a", "1" + FIGURES, "1-2", "~")
NO_NAMES = ("", "A", "aB", "abcdefghi", "a1", "1", "a-b", "a_b", "a\n", "~", "a.", "aaaaaaaaaaaaaaaaaaaa")


def put(desk, name, web):
    """All answers are ok."""
    said = [desk.say(f"web {name} {web[0]}")]
    return said + [desk.say(f"road {name} {a} {b} {length}") for a, b, length in web[1]]


def plan_words(kind, plan):
    return "".join(f" {thing}" if kind == "walk" else f" {thing[0]}-{thing[1]}" for thing in plan)


def shown(desk):
    """All that stands at a desk."""
    names = desk.say("names")
    return (names, [desk.say(f"show {name}") for name in names.split()])


class Desks(unittest.TestCase):
    def desk(self, **webs):
        desk = Desk()
        for name, web in webs.items():
            self.assertEqual(set(put(desk, name, web)), {"ok"})
        return desk

    def told(self, desk, row):
        answer = desk.say(row)
        self.assertIs(type(answer), str)
        return answer

    def refused(self, desk, name, row):
        """The error, when it is of this name alone and nothing was changed."""
        before = shown(desk)
        for base in (getattr(errors, name), errors.HideError, ValueError):
            try:
                answer = desk.say(row)
            except base as error:
                caught = error
            else:
                self.fail(f"{row[:60]!r} was not refused with {name} but answered with {answer!r}")
        for other in NAMES:
            self.assertEqual(isinstance(caught, getattr(errors, other)), other == name, row[:60])
        self.assertEqual(shown(desk), before)
        return caught


class Answers(Desks):
    def test_a_new_desk(self):
        self.assertEqual(self.told(Desk(), "names"), "")

    def test_web_and_show(self):
        desk = Desk()
        self.assertEqual(self.told(desk, "web a 1"), "ok")
        self.assertEqual(self.told(desk, "show a"), "web 1")
        self.assertEqual(self.told(desk, "web abcdefgh 3"), "ok")
        self.assertEqual(self.told(desk, "show abcdefgh"), "web 3")
        self.assertEqual(self.told(desk, "names"), "a abcdefgh")

    def test_road(self):
        desk = self.desk(a=(3, []))
        self.assertEqual(self.told(desk, "road a 0 1 2"), "ok")
        self.assertEqual(self.told(desk, "show a"), "web 3, road 0 1 2")
        self.assertEqual(self.told(desk, "road a 2 1 5"), "ok")
        self.assertEqual(self.told(desk, "road a 0 1 2"), "ok")
        self.assertEqual(self.told(desk, "show a"), "web 3, road 0 1 2, road 2 1 5, road 0 1 2")

    def test_cut(self):
        desk = self.desk(a=SQUARE)
        self.assertEqual(self.told(desk, "cut a 1"), "ok")
        self.assertEqual(self.told(desk, "show a"), "web 4, road 0 1 3, road 2 3 4, road 3 0 2, road 2 1 7")
        self.assertEqual(self.told(desk, "cut a 3"), "ok")
        self.assertEqual(self.told(desk, "cut a 0"), "ok")
        self.assertEqual(self.told(desk, "show a"), "web 4, road 2 3 4, road 3 0 2")
        self.assertEqual([self.told(desk, "cut a 0"), self.told(desk, "cut a 0")], ["ok", "ok"])
        self.assertEqual(self.told(desk, "show a"), "web 4")

    def test_show_is_the_webs_text(self):
        for web in (ALONE, PATH, SQUARE, LONG_PATH, all_joined(7)):
            desk = self.desk(w=web)
            self.assertEqual(self.told(desk, "show w"), web_text(web)[:-1].replace("\n", ", "))

    def test_names(self):
        desk = Desk()
        for name in ("b", "abc", "z", "ab", "zzzzzzzz", "a", "c"):
            desk.say(f"web {name} 1")
        self.assertEqual(self.told(desk, "names"), "a ab abc b c z zzzzzzzz")
        desk.say("drop b")
        self.assertEqual(self.told(desk, "names"), "a ab abc c z zzzzzzzz")

    def test_worth(self):
        desk = self.desk(alone=ALONE, path=PATH, star=STAR, ring=RING, double=DOUBLE)
        for kind in BOTH:
            self.assertEqual(self.told(desk, f"worth alone {kind}"), "0/1")
            self.assertEqual(self.told(desk, f"worth path {kind}"), "7/1")
            self.assertEqual(self.told(desk, f"worth ring {kind}"), "3/2")
            self.assertEqual(self.told(desk, f"worth double {kind}"), "7/1")
        self.assertEqual(self.told(desk, "worth star walk"), "2/1")
        self.assertEqual(self.told(desk, "worth star spread"), "3/2")

    def test_seek_and_hide(self):
        desk = self.desk(alone=ALONE, path=PATH)
        self.assertEqual(self.told(desk, "seek alone walk"), "walk 1 0")
        self.assertEqual(self.told(desk, "seek alone spread"), "spread 1")
        self.assertEqual(self.told(desk, "hide alone walk"), "1")
        self.assertEqual(self.told(desk, "seek path spread"), "spread 1 0-1 1-2")
        self.assertEqual(self.told(desk, "hide path spread"), "0 0 1")

    def test_as_web_worth_tells(self):
        chance = random.Random(70)
        webs = [RING, SQUARE, TREE] + [some_web(chance, chance.randint(1, 7), chance.randint(0, 6)) for turn in range(6)]
        for web in webs:
            desk = self.desk(w=web)
            for kind in BOTH:
                worth, seeker, hider = web_worth(web, kind)
                self.assertEqual(self.told(desk, f"worth w {kind}"), f"{worth[0]}/{worth[1]}")
                self.assertEqual(self.told(desk, f"seek w {kind}"), paper_text(kind, seeker)[:-1].replace("\n", ", "))
                self.assertEqual(self.told(desk, f"hide w {kind}"), " ".join(map(str, hider[0])))

    def test_what_is_told_is_let_by(self):
        desk = self.desk(w=SQUARE)
        for kind in BOTH:
            worth = tuple(map(int, self.told(desk, f"worth w {kind}").split("/")))
            told, seeker = read_paper(self.told(desk, f"seek w {kind}").replace(", ", "\n") + "\n")
            weights = [int(word) for word in self.told(desk, f"hide w {kind}").split(" ")]
            self.assertEqual(told, kind)
            self.assertIsNone(judged(SQUARE, kind, worth, seeker, (weights, least_table(SQUARE, kind, weights))))

    def test_pay(self):
        desk = self.desk(alone=ALONE, path=PATH)
        self.assertEqual(self.told(desk, "pay alone walk 0"), "0")
        self.assertEqual(self.told(desk, "pay alone spread"), "0")
        self.assertEqual(self.told(desk, "pay path walk 0 1 0 1 2"), "0 2 11")
        self.assertEqual(self.told(desk, "pay path spread 0-1 1-2"), "0 2 7")

    def test_pay_as_costs_of_tells(self):
        for kind, cases in (("walk", WALKS), ("spread", SPREADS)):
            for web, plan, costs in cases:
                desk = self.desk(w=web)
                self.assertEqual(self.told(desk, f"pay w {kind}" + plan_words(kind, plan)), " ".join(map(str, costs)))
                self.assertEqual(costs_of(web, kind, plan), costs)

    def test_tree(self):
        for web in (ALONE, PATH, STAR, TREE, LONG_PATH):
            desk = self.desk(w=web)
            self.assertEqual(self.told(desk, "tree w"), str(tree_worth(web)[0][0]))
        self.assertEqual(self.told(desk, "tree w"), "59")
        self.assertEqual(self.told(self.desk(w=ALONE), "tree w"), "0")

    def test_drop(self):
        desk = self.desk(a=PATH, b=STAR)
        self.assertEqual(self.told(desk, "drop a"), "ok")
        self.assertEqual(shown(desk), ("b", ["web 3, road 0 1 1, road 0 2 1"]))
        self.refused(desk, "NoName", "show a")
        self.refused(desk, "NoName", "drop a")
        self.assertEqual(self.told(desk, "web a 1"), "ok")
        self.assertEqual(self.told(desk, "worth a walk"), "0/1")

    def test_a_web_in_the_place_of_an_elder_one(self):
        desk = self.desk(a=PATH)
        self.assertEqual(self.told(desk, "worth a walk"), "7/1")
        self.assertEqual(self.told(desk, "web a 2"), "ok")
        self.assertEqual(shown(desk), ("a", ["web 2"]))
        self.refused(desk, "NoWeb", "worth a walk")
        desk.say("road a 0 1 9")
        self.assertEqual(self.told(desk, "worth a walk"), "9/1")

    def test_told_as_it_is_then(self):
        desk = self.desk(a=(2, [(0, 1, 5)]))
        rows = ("worth a walk", "seek a walk", "hide a walk", "worth a spread", "pay a walk 0 1", "tree a", "show a")
        first = [self.told(desk, row) for row in rows]
        self.assertEqual([self.told(desk, row) for row in rows], first)
        desk.say("road a 1 0 3")
        self.assertEqual(self.told(desk, "worth a walk"), "3/1")
        self.assertEqual(self.told(desk, "worth a spread"), "3/1")
        self.assertEqual(self.told(desk, "pay a walk 0 1"), "0 3")
        self.refused(desk, "NoTree", "tree a")
        desk.say("cut a 1")
        self.assertEqual([self.told(desk, row) for row in rows], first)
        desk.say("cut a 0")
        for row in rows[:-1]:
            self.refused(desk, "NoWeb", row)
        desk.say("road a 0 1 4")
        self.assertEqual(self.told(desk, "worth a walk"), "4/1")

    def test_a_change_of_one_web_leaves_the_others(self):
        desk = self.desk(a=PATH, b=RING)
        self.assertEqual([self.told(desk, f"worth {name} walk") for name in "ab"], ["7/1", "3/2"])
        desk.say("cut b 2")
        self.assertEqual([self.told(desk, f"worth {name} walk") for name in "ab"], ["7/1", "2/1"])

    def test_two_desks_know_nothing_of_each_other(self):
        one, other = Desk(), Desk()
        put(one, "a", PATH)
        self.assertEqual(self.told(other, "names"), "")
        self.refused(other, "NoName", "show a")
        put(other, "a", STAR)
        self.assertEqual([self.told(desk, "worth a walk") for desk in (one, other)], ["7/1", "2/1"])
        one.say("drop a")
        self.assertEqual(self.told(other, "worth a walk"), "2/1")

    def test_asked_again_it_is_told_at_once(self):
        chance = random.Random(71)
        desk = self.desk(w=some_web(chance, 7, 30, 1000000))
        first = self.told(desk, "worth w walk")
        start = time.process_time()
        for turn in range(300):
            self.assertEqual(self.told(desk, "worth w walk"), first)
            desk.say("seek w walk")
            desk.say("hide w walk")
        self.assertLess(time.process_time() - start, 3)


class NoRows(Desks):
    def test_other_first_words(self):
        desk = self.desk(a=PATH)
        for row in ("", " ", "  ", "\n", "Web a 1", "WEB a 1", " web a 1", "webs a 1", "walk", "a", "quit", "name", "names\n",
                    "web\na 1", "ok", "0", "~", "show\ta", "spread a", "worths a walk", " names", "roads a 0 1 1"):
            self.refused(desk, "NoRow", row)

    def test_a_word_too_many_or_too_few(self):
        desk = self.desk(a=PATH)
        rows = {"web a 1": 3, "road a 0 1 1": 5, "cut a 0": 3, "show a": 2, "names": 1, "worth a walk": 3,
                "seek a walk": 3, "hide a walk": 3, "tree a": 2, "drop a": 2}
        self.assertEqual(sorted([row.split()[0] for row in rows] + ["pay"]), sorted(VERBS))
        for row, count in rows.items():
            words = row.split(" ")
            self.assertEqual(len(words), count)
            for many in range(1, count):
                self.refused(desk, "NoRow", " ".join(words[:many]))
            for more in (" ", " x", " 1", "  ", " a b c", " walk"):
                self.refused(desk, "NoRow", row + more)
            # A word without signs counts as one.
            self.refused(desk, "NoRow", " " + row)
        for row in ("pay", "pay a", "pay ", "pay a\n"):
            self.refused(desk, "NoRow", row)

    def test_ahead_of_all_else(self):
        desk = self.desk(bad=(2, []))
        for row in ("web A x y", "road nobody x", "show nobody x", "worth bad tree x", "cut bad 9 9", "drop nobody 1",
                    "tree bad bad", "web A", "road bad 0 1", "seek nobody", "pay nobody", "names nobody"):
            self.refused(desk, "NoRow", row)

    def test_words_without_signs(self):
        desk = self.desk(a=PATH)
        self.refused(desk, "NoName", "web  1")
        self.refused(desk, "NoNumber", "web a ")
        self.refused(desk, "NoName", "show ")
        self.refused(desk, "NoName", "drop ")
        self.refused(desk, "NoName", "tree ")
        self.refused(desk, "NoName", "road  0 1 1")
        self.refused(desk, "NoNumber", "road a  1 1")
        self.refused(desk, "NoNumber", "road a 0 1 ")
        self.refused(desk, "NoNumber", "cut a ")
        self.refused(desk, "NoKind", "worth a ")
        self.refused(desk, "NoKind", "pay a ")
        self.refused(desk, "NoName", "pay  ")
        self.refused(desk, "NoNumber", "pay a walk ")
        self.refused(desk, "NoNumber", "pay a walk 0 1  2")
        self.refused(desk, "NoNumber", "pay a spread ")
        self.refused(desk, "NoNumber", "pay a spread 0-1  1-2")


class Refusals(Desks):
    def test_no_name(self):
        desk = self.desk(a=PATH, bb=ALONE)
        for name in NO_NAMES:
            self.refused(desk, "NoName", f"web {name} 1")
            self.refused(desk, "NoName", f"web {name} x")
        for name in NO_NAMES + ("b", "aa", "nobody", "names", "web"):
            for row in ("road {} 0 1 1", "road {} x y z", "cut {} 0", "cut {} x", "show {}", "worth {} walk",
                        "worth {} tree", "seek {} walk", "hide {} x", "pay {} walk 0", "pay {} x y", "tree {}", "drop {}"):
                self.refused(desk, "NoName", row.format(name))

    def test_no_number(self):
        desk = self.desk(a=PATH)
        for word in NO_NUMBERS:
            for row in (f"web a {word}", f"web b {word}", f"road a {word} 1 1", f"road a 0 {word} 1", f"road a 0 1 {word}",
                        f"cut a {word}", f"pay a walk {word}", f"pay a walk 0 {word}", f"pay a walk 0 1 2 {word}"):
                self.refused(desk, "NoNumber", row)
            for step in (f"{word}-1", f"0-{word}", word if word != "1-2" else "1-2-3", f"0-1-{word}", f"-{word}"):
                self.refused(desk, "NoNumber", f"pay a spread {step}")
                self.refused(desk, "NoNumber", f"pay a spread 0-1 1-2 {step}")

    def test_two_thousand_figures_are_a_number(self):
        desk = self.desk(a=PATH)
        self.refused(desk, "NoRoad", f"cut a {FIGURES}")
        self.assertEqual(self.refused(desk, "NoPlan", f"pay a walk 0 {FIGURES}").at, 1)
        self.assertEqual(self.refused(desk, "NoPlan", f"pay a spread 0-1 {FIGURES}-{FIGURES}").at, 1)
        self.assertEqual(self.told(desk, f"web b {FIGURES}"), "ok")
        self.assertEqual(self.told(desk, f"road b {FIGURES} 0 {FIGURES}"), "ok")
        self.assertEqual(self.told(desk, "show b"), f"web {FIGURES}, road {FIGURES} 0 {FIGURES}")
        self.assertEqual(self.refused(desk, "NoWeb", "worth b walk").road, 0)

    def test_words_of_a_plan_of_the_other_kind(self):
        desk = self.desk(a=PATH)
        self.refused(desk, "NoNumber", "pay a walk 0-1 1-2")
        self.refused(desk, "NoNumber", "pay a walk 0 1 1-2")
        self.refused(desk, "NoNumber", "pay a spread 0 1 2")
        self.refused(desk, "NoNumber", "pay a spread 0-1 2")

    def test_no_road(self):
        desk = self.desk(a=PATH, b=ALONE)
        for row in ("cut a 2", "cut a 3", "cut a 99999999999999999999", "cut b 0", "cut b 1"):
            self.refused(desk, "NoRoad", row)
        desk.say("cut a 1")
        self.refused(desk, "NoRoad", "cut a 1")

    def test_no_plan(self):
        for kind, cases in (("walk", NO_WALKS), ("spread", NO_SPREADS)):
            for web, plan, at in cases:
                things = [thing for place in plan for thing in (place if type(place) is tuple else (place,))]
                if len({type(thing) for thing in plan} - {int if kind == "walk" else tuple}) or min(things, default=0) < 0:
                    continue
                desk = self.desk(w=web)
                row = f"pay w {kind}" + plan_words(kind, plan)
                self.assertEqual(self.refused(desk, "NoPlan", row).at, at)

    def test_no_number_ahead_of_no_plan(self):
        # A plan is looked at when all its words are read.
        desk = self.desk(a=PATH)
        self.refused(desk, "NoNumber", "pay a walk 2 x")
        self.refused(desk, "NoNumber", "pay a spread 1-2 x")

    def test_no_kind(self):
        desk = self.desk(a=PATH, b=LONG_PATH)
        for kind in ("tree", "Walk", "walks", "", "x", "0", "-"):
            for verb in ("worth", "seek", "hide", "pay"):
                self.refused(desk, "NoKind", f"{verb} a {kind}")
            for words in ("x", "0 1 2", "0-1 1-2", " ", "0 7"):
                self.refused(desk, "NoKind", f"pay a {kind} {words}")
                self.refused(desk, "NoKind", f"pay b {kind} {words}")

    def test_too_great_ahead_of_no_kind(self):
        for web in (LONG_PATH, all_joined(8)):
            desk = self.desk(w=web)
            for verb in ("worth", "seek", "hide"):
                for kind in BOTH + ("tree", ""):
                    self.refused(desk, "TooGreat", f"{verb} w {kind}")
        # Plans are paid for on great webs, too.
        self.assertEqual(self.told(desk, "pay w walk 0 1 2 3 4 5 6 7"), "0 1 2 3 4 5 6 7")

    def test_no_tree(self):
        for web in (RING, DOUBLE, SQUARE):
            self.refused(self.desk(w=web), "NoTree", "tree w")

    def test_a_web_that_is_not_let_by_may_stand(self):
        for web, road in NO_WEBS:
            if web[0] < 0 or any(number < 0 for one in web[1] for number in one):
                continue
            desk = self.desk(w=web)
            rows = [f"web {web[0]}"] + [f"road {a} {b} {length}" for a, b, length in web[1]]
            self.assertEqual(self.told(desk, "show w"), ", ".join(rows))
            self.assertEqual(self.told(desk, "names"), "w")
            for row in ("worth w walk", "worth w tree", "seek w spread", "hide w walk", "hide w ", "pay w walk 0",
                        "pay w spread", "pay w tree x", "pay w walk x", "tree w"):
                with self.subTest(web=web, row=row):
                    self.assertEqual(self.refused(desk, "NoWeb", row).road, road)
            self.assertEqual(self.told(desk, "road w 0 0 0"), "ok")
            self.assertEqual(self.told(desk, "show w"), ", ".join(rows + ["road 0 0 0"]))
            self.assertEqual(self.told(desk, f"cut w {len(web[1])}"), "ok")
            self.assertEqual(self.told(desk, "show w"), ", ".join(rows))
            self.refused(desk, "NoRoad", f"cut w {len(web[1])}")
            self.assertEqual(self.told(desk, "drop w"), "ok")

    def test_a_web_mended_is_let_by(self):
        desk = self.desk(w=(3, [(0, 1, 1), (0, 3, 1)]))
        self.assertEqual(self.refused(desk, "NoWeb", "worth w walk").road, 1)
        desk.say("cut w 1")
        self.assertEqual(self.refused(desk, "NoWeb", "worth w walk").road, -1)
        desk.say("road w 1 2 1")
        self.assertEqual(self.told(desk, "worth w walk"), "2/1")

    def test_what_is_refused_changes_no_answer(self):
        desk = self.desk(a=RING)
        rows = [f"{verb} a {kind}" for verb in ("worth", "seek", "hide") for kind in BOTH]
        first = [self.told(desk, row) for row in rows]
        for name, row in (("NoNumber", "web a x"), ("NoNumber", "road a 0 1 x"), ("NoRoad", "cut a 3"),
                          ("NoRow", "drop a a"), ("NoName", "drop b"), ("NoRow", "web a 1 1"), ("NoTree", "tree a"),
                          ("NoPlan", "pay a walk 1"), ("NoKind", "worth a x")):
            self.refused(desk, name, row)
            self.assertEqual([self.told(desk, again) for again in rows], first)


if __name__ == "__main__":
    unittest.main()
