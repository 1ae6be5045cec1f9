import random
import unittest

from hideworth.finder import web_worth
from hideworth.moving import moving_worth
from hideworth.texts import paper_text, read_paper, read_web, web_text
from hideworth.trees import tree_worth
from tests.apart import DOUBLE, PATH, RING, SQUARE, STAR, TREE, all_joined, some_web
from tests.asking import asked, form, refused
from tests.test_judge import ALONE, BOTH
from tests.test_webs import LONG_PATH, MANY_ROADS, NO_KINDS, NO_WEBS, ODD_KINDS

# Sixty places and 120 roads.
GREAT = (60, LONG_PATH[1] + [(k, 59 - k, 1000000 - k) for k in range(30)] + [(59, k, 1) for k in range(31)])
FIGURES = "9" * 2000
WALKS = [([0, 1, 2], 1), ([0, 2, 1], 12)]
SPREADS = [([(0, 1), (1, 2)], 1), ([(0, 2), (0, 1)], 12)]

# (text, row) for either way of reading, as forms of words go wrong alike.
WRONG_WORDS = ("", " ", "a", "1a", "a1", "-1", "+1", "1.0", "1_0", "01", "00", "007", "0x1", "1e3", "\t1", "1\t", "~",
               "1,", "1" + FIGURES, "0" + FIGURES, "1-", "-", "--1", "1 ", " 1", "1  2", "1\r")

# (text, row)
NO_WEB_TEXTS = (
    ("", 0),
    ("\n", 0),
    ("\n\n", 0),
    (" ", 0),
    ("web 1", 0),
    ("web", 0),
    ("web\n", 0),
    ("web \n", 0),
    ("web  1\n", 0),
    (" web 1\n", 0),
    ("web 1 \n", 0),
    ("web 1 1\n", 0),
    ("Web 1\n", 0),
    ("webs 1\n", 0),
    ("1\n", 0),
    ("road 0 1 1\n", 0),
    ("road 0 1 1\nweb 2\n", 0),
    ("\nweb 1\n", 0),
    ("web 1\n\n", 1),
    ("web 1\n ", 1),
    ("web 1\n \n", 1),
    ("web 1\nweb 1\n", 1),
    ("web 2\nroad 0 1 1", 1),
    ("web 2\nroad 0 1 1\nroad", 2),
    ("web 2\nroad 0 1 1\n\n", 2),
    ("web 2\nroad 0 1 1\n\nroad 0 1 1\n", 2),
    ("web 2\nroad 0 1\n", 1),
    ("web 2\nroad 0 1 1 1\n", 1),
    ("web 2\nroads 0 1 1\n", 1),
    ("web 2\nroad  0 1 1\n", 1),
    ("web 2\nroad 0  1 1\n", 1),
    ("web 2\nroad 0 1 1 \n", 1),
    ("web 2\n road 0 1 1\n", 1),
    ("web 2\nroad 0-1 1\n", 1),
    # A road that is none, at its row.
    ("web 2\nroad 0 1 1\nroad 0 2 1\n", 2),
    ("web 2\nroad 0 1 1\nroad 1 1 1\n", 2),
    ("web 2\nroad 0 1 0\n", 1),
    ("web 2\nroad 0 1 1000001\n", 1),
    ("web 2\nroad 0 1 " + FIGURES + "\n", 1),
    ("web 1\nroad 0 0 1\n", 1),
    ("web 0\nroad 0 1 1\n", 1),
    ("web 61\nroad 0 61 1\n", 1),
    # All rows are right, but the web is none: how many rows there are.
    ("web 0\n", 1),
    ("web 2\n", 1),
    ("web 61\n", 1),
    ("web " + FIGURES + "\n", 1),
    ("web " + FIGURES + "\nroad 0 " + FIGURES[:-1] + "8 1\n", 2),
    ("web 3\nroad 0 1 1\n", 2),
    ("web 4\nroad 0 1 1\nroad 2 3 1\n", 3),
    ("web 61\n" + "".join(f"road {k} {k + 1} 1\n" for k in range(60)), 61),
    ("web 2\n" + "road 0 1 1\n" * 121, 122),
    ("web 2\n" + "road 0 1 1\n" * 121 + "x", 122),
    # The first row that is wrong, whatever stands behind it.
    ("web x\nroad 0 1 1", 0),
    ("web 2\nroad 0 2 1\nroad x\n", 1),
    ("web 2\nroad x\nroad 0 2 1\n", 1),
    ("web 61\nroad 0 1 1\nroad 0 61 1\nroad 0 1", 2),
    ("web 2\nroad 0 1 0\nroad 0 1", 1),
    ("web 01\n\n", 0),
)

# (text, row)
NO_PAPER_TEXTS = (
    ("", 0),
    ("\n", 0),
    (" \n", 0),
    ("walk", 0),
    ("walk\n", 0),
    ("walk \n", 0),
    ("walk 1\n", 0),
    ("walk 1 \n", 0),
    ("walk 1 0", 0),
    ("walk 0 0\n", 0),
    ("walk 00 0\n", 0),
    ("walk  1 0\n", 0),
    ("walk 1  0\n", 0),
    ("walk 1 0 \n", 0),
    (" walk 1 0\n", 0),
    ("walk 1 0-1\n", 0),
    ("walk 1 0 0-1\n", 0),
    ("walks 1 0\n", 0),
    ("Walk 1 0\n", 0),
    ("walk\n1 0\n", 0),
    ("walk\nwalk 1 0\n", 0),
    ("tree 1 0\n", 0),
    ("web 1\n", 0),
    ("1 0\n", 0),
    ("spread", 0),
    ("spread\n", 0),
    ("spread \n", 0),
    ("spread 0\n", 0),
    ("spread 1", 0),
    ("spread 1 \n", 0),
    ("spread 1 0\n", 0),
    ("spread 1 0-\n", 0),
    ("spread 1 -1\n", 0),
    ("spread 1 -\n", 0),
    ("spread 1 0-1-2\n", 0),
    ("spread 1 0--1\n", 0),
    ("spread 1 0 - 1\n", 0),
    ("spread 1 0-01\n", 0),
    ("spread 1 00-1\n", 0),
    ("spread 1  0-1\n", 0),
    ("spread 1 0-1 \n", 0),
    ("spread 0 0-1\n", 0),
    ("spread\nspread 1\n", 0),
    ("walk 1 0\n\n", 1),
    ("walk 1 0\nwalk 1 0", 1),
    ("walk 1 0\nwalk 0 0\n", 1),
    ("walk 1 0\nwalk 1\n", 1),
    ("walk 1 0\nspread 1\n", 1),
    ("walk 1 0\nspread 1 0-1\n", 1),
    ("spread 1\nwalk 1 0\n", 1),
    ("spread 1\nspread 1\nwalk 1 0\n", 2),
    ("spread 1\nspread\n", 1),
    ("spread 1\nx", 1),
    ("spread 1\n \n", 1),
    ("walk 1 0\nwalk 2 0\nwalk 3 a\nwalk 0 0", 2),
    ("walk 1 a\nspread 1\nwalk 0", 0),
    ("walk 1 0\nspread 1\nwalk 1 a\n", 1),
)


class Webs(unittest.TestCase):
    def written(self, web):
        text = asked(self, web_text, web)
        self.assertIs(type(text), str)
        self.assertEqual(form(asked(self, read_web, text)), form(web))
        self.assertEqual(web_text(read_web(text)), text)
        return text

    def test_by_hand(self):
        self.assertEqual(self.written(ALONE), "web 1\n")
        self.assertEqual(self.written(PATH), "web 3\nroad 0 1 2\nroad 1 2 5\n")
        self.assertEqual(self.written(DOUBLE), "web 3\nroad 0 1 9\nroad 1 0 4\nroad 2 1 3\nroad 0 1 6\n")
        self.assertEqual(self.written((2, [(1, 0, 1000000)])), "web 2\nroad 1 0 1000000\n")

    def test_great_ones(self):
        self.assertEqual((GREAT[0], len(GREAT[1])), (60, 120))
        text = self.written(GREAT)
        self.assertEqual(text, "web 60\n" + "".join(f"road {a} {b} {length}\n" for a, b, length in GREAT[1]))
        for web in (LONG_PATH, MANY_ROADS, all_joined(7)):
            self.written(web)

    def test_some(self):
        chance = random.Random(60)
        for turn in range(30):
            many = chance.randint(1, 60)
            self.written(some_web(chance, many, chance.randint(0, 61), 1000000))

    def test_no_web(self):
        for web, road in NO_WEBS:
            self.assertEqual(refused(self, "NoWeb", web_text, web).road, road)

    def test_a_web_changed_behind_is_written_as_it_is_then(self):
        web = (2, [(0, 1, 1)])
        text = web_text(web)
        web[1].append((1, 0, 2))
        self.assertEqual((text, web_text(web)), ("web 2\nroad 0 1 1\n", "web 2\nroad 0 1 1\nroad 1 0 2\n"))

    def test_no_texts(self):
        for text, row in NO_WEB_TEXTS:
            with self.subTest(text=text[:60]):
                self.assertEqual(refused(self, "NoText", read_web, text).row, row)

    def test_wrong_words(self):
        for word in WRONG_WORDS:
            with self.subTest(word=word[:9]):
                self.assertEqual(refused(self, "NoText", read_web, f"web {word}\n").row, 0)
                for rest in (f"{word} 1 1", f"0 {word} 1", f"0 1 {word}"):
                    text = f"web 2\nroad 0 1 1\nroad {rest}\nroad x\n"
                    self.assertEqual(refused(self, "NoText", read_web, text).row, 2)

    def test_two_thousand_figures_are_read(self):
        # As a number they are right: so it is the web that is none.
        self.assertEqual(refused(self, "NoText", read_web, f"web {FIGURES}\n").row, 1)
        self.assertEqual(refused(self, "NoText", read_web, f"web {FIGURES}9\n").row, 0)
        self.assertEqual(refused(self, "NoText", read_web, f"web 1{FIGURES}\nroad 0 1 1\n").row, 0)

    def test_each_row_without_its_line_end(self):
        for web in (ALONE, PATH, SQUARE, GREAT):
            rows = web_text(web).splitlines()
            for k in range(len(rows)):
                text = "\n".join(rows[:k + 1])
                self.assertEqual(refused(self, "NoText", read_web, text).row, k)

    def test_each_sign_changed(self):
        # One sign more or less, or another one: it is the text of another web, or it is refused.
        text = web_text(SQUARE)
        for k in range(len(text)):
            for other in (text[:k] + text[k + 1:], text[:k] + " " + text[k:], text[:k] + "0" + text[k:],
                          text[:k] + "x" + text[k + 1:], text[:k] + "\n" + text[k:], text[:k] + "3" + text[k + 1:]):
                if other != text:
                    try:
                        web = read_web(other)
                    except ValueError as error:
                        self.assertEqual(type(error).__name__, "NoText")
                        self.assertIn(error.row, range(other.count("\n") + 1))
                    else:
                        self.assertEqual(web_text(web), other)


class Papers(unittest.TestCase):
    def written(self, kind, paper):
        text = asked(self, paper_text, kind, paper)
        self.assertIs(type(text), str)
        self.assertEqual(form(asked(self, read_paper, text)), form((kind, paper)))
        self.assertEqual(paper_text(*read_paper(text)), text)
        return text

    def test_by_hand(self):
        self.assertEqual(self.written("walk", [([0], 1)]), "walk 1 0\n")
        self.assertEqual(self.written("spread", [([], 1)]), "spread 1\n")
        self.assertEqual(self.written("walk", WALKS), "walk 1 0 1 2\nwalk 12 0 2 1\n")
        self.assertEqual(self.written("spread", SPREADS), "spread 1 0-1 1-2\nspread 12 0-2 0-1\n")
        self.assertEqual(self.written("spread", [([], 3), ([(10, 0)], 20), ([], 3)]), "spread 3\nspread 20 10-0\nspread 3\n")

    def test_papers_told(self):
        for web in (ALONE, PATH, STAR, RING, SQUARE, TREE, all_joined(7)):
            for kind in BOTH:
                self.written(kind, web_worth(web, kind)[1])
        self.assertEqual(paper_text("walk", web_worth(ALONE, "walk")[1]), "walk 1 0\n")
        self.assertEqual(paper_text("spread", web_worth(ALONE, "spread")[1]), "spread 1\n")
        self.written("walk", tree_worth(LONG_PATH)[1])
        for paper in moving_worth(SQUARE, 3)[1:]:
            self.written("walk", paper)

    def test_plans_are_looked_at_by_no_web(self):
        self.written("walk", [([7, 7, 99], 1), ([10 ** 29], 2)])
        self.written("spread", [([(5, 5), (0, 0), (10 ** 29, 3)], 10 ** 29)])

    def test_two_thousand_figures_are_read(self):
        great = int(FIGURES)
        self.assertEqual(asked(self, read_paper, f"walk {FIGURES} 0\n"), ("walk", [([0], great)]))
        self.assertEqual(asked(self, read_paper, f"walk 1 {FIGURES}\n"), ("walk", [([great], 1)]))
        self.assertEqual(asked(self, read_paper, f"spread 1 {FIGURES}-0\n"), ("spread", [([(great, 0)], 1)]))
        self.assertEqual(asked(self, read_paper, f"spread {FIGURES} 0-{FIGURES}\n"), ("spread", [([(0, great)], great)]))
        self.assertEqual(asked(self, paper_text, "walk", [([0], great)]), f"walk {FIGURES} 0\n")
        for text in ("walk 1{} 0\n", "walk 1 1{}\n", "spread 1{}\n", "spread 1 1{}-0\n", "spread 1 0-1{}\n"):
            self.assertEqual(refused(self, "NoText", read_paper, text.format(FIGURES)).row, 0)

    def test_a_great_paper(self):
        paper = [(list(range(20)), k + 1) for k in range(150)]
        self.written("walk", paper)

    def test_no_texts(self):
        for text, row in NO_PAPER_TEXTS:
            with self.subTest(text=text):
                self.assertEqual(refused(self, "NoText", read_paper, text).row, row)

    def test_wrong_words(self):
        for word in WRONG_WORDS:
            # "1  2" and the like are two words at a walk's end, and one of them is none.
            for rest in (f"walk {word} 0", f"walk 1 {word}", f"walk 1 0 {word}", f"walk 1 {word} 0"):
                with self.subTest(rest=rest[:20]):
                    self.assertEqual(refused(self, "NoText", read_paper, rest + "\n").row, 0)
                    self.assertEqual(refused(self, "NoText", read_paper, f"walk 1 0\n{rest}\nx").row, 1)
            for rest in (f"spread {word}", f"spread {word} 0-1", f"spread 1 {word}-1", f"spread 1 0-1 1-{word}"):
                with self.subTest(rest=rest[:20]):
                    self.assertEqual(refused(self, "NoText", read_paper, rest + "\n").row, 0)
                    self.assertEqual(refused(self, "NoText", read_paper, f"spread 1\n{rest}\nx").row, 1)

    def test_no_kind_ahead_of_all_else(self):
        for kind in NO_KINDS + ODD_KINDS:
            for paper in ([], WALKS, SPREADS, [([0], 0)]):
                refused(self, "NoKind", paper_text, kind, paper)

    def test_a_paper_changed_behind_is_written_as_it_is_then(self):
        paper = [([0, 1], 1)]
        text = paper_text("walk", paper)
        paper[0][0].append(0)
        paper.append(([0], 2))
        self.assertEqual((text, paper_text("walk", paper)), ("walk 1 0 1\n", "walk 1 0 1 0\nwalk 2 0\n"))

    def test_each_sign_changed(self):
        for text in ("walk 1 0 1 2\nwalk 12 0 2 1\n", "spread 1 0-1 1-2\nspread 12 0-2 0-1\n"):
            for k in range(len(text)):
                for other in (text[:k] + text[k + 1:], text[:k] + " " + text[k:], text[:k] + "0" + text[k:],
                              text[:k] + "x" + text[k + 1:], text[:k] + "\n" + text[k:], text[:k] + "-" + text[k:]):
                    try:
                        kind, paper = read_paper(other)
                    except ValueError as error:
                        self.assertEqual(type(error).__name__, "NoText")
                        self.assertIn(error.row, range(other.count("\n") + 1))
                    else:
                        self.assertEqual(paper_text(kind, paper), other)


if __name__ == "__main__":
    unittest.main()
