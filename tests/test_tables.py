import copy
import math
import random
import unittest
from fractions import Fraction

from hideworth.tables import best_columns, best_rows, table_judged, table_worth
from tests.asking import asked, numbers_in, refused

GREAT = 10 ** 30 - 1

NO_TABLES = {
    "no row": [],
    "a row of none": [[]],
    "rows of none": [[], []],
    "one row of none": [[1], []],
    "rows of unlike counts": [[1, 2], [3]],
    "a longer last row": [[1], [2], [3, 4]],
    "thirteen rows": [[1] for k in range(13)],
    "thirteen columns": [list(range(13))],
    "thirteen of both": [[1] * 13 for k in range(13)],
    "a truth": [[1, True], [3, 4]],
    "an untruth": [[1, 0], [False, 4]],
    "a text for a number": [[1, "2"], [3, 4]],
    "None for a number": [[None]],
    "a list for a number": [[[1]]],
    "a tuple for a row": [(1, 2), [3, 4]],
    "a last row that is a tuple": [[1, 2], (3, 4)],
    "a text for a row": [[1], "1"],
    "a number for a row": [1],
    "None for a row": [None],
    "a dict for a row": [{0: 1}],
    "None": None,
    "a number": 3,
    "a truth for the whole": True,
    "a text": "[[1]]",
    "a tuple for the whole": ([1], [2]),
    "a dict for the whole": {0: [1]},
}

TABLES = {
    "one number": ([[5]], Fraction(5)),
    "one number below 0": ([[-GREAT]], Fraction(-GREAT)),
    "0": ([[0]], Fraction(0)),
    "one row": ([[3, -1, 4, 1, -5]], Fraction(4)),
    "one column": ([[3], [-1], [4], [-5], [1]], Fraction(-5)),
    "told by one row and one column": ([[4, 1, 8], [3, 2, 3], [9, 0, 5]], Fraction(3)),
    "told so, below 0": ([[-4, -9], [-6, -8]], Fraction(-6)),
    "several such": ([[2, 2, 1], [2, 2, 0], [5, 7, 9]], Fraction(2)),
    "which hand": ([[1, 0], [0, 1]], Fraction(1, 2)),
    "a mix of two": ([[3, -1], [-2, 1]], Fraction(1, 7)),
    "stone and paper": ([[0, 1, -1], [-1, 0, 1], [1, -1, 0]], Fraction(0)),
    "all alike": ([[7] * 12 for k in range(12)], Fraction(7)),
    "all 0": ([[0] * 5 for k in range(3)], Fraction(0)),
    "rows alike": ([[1, 0], [1, 0], [0, 1], [0, 1], [1, 0]], Fraction(1, 2)),
    "columns alike": ([[1, 1, 0, 0], [0, 0, 1, 1]], Fraction(1, 2)),
    "twelve places": ([[1 if i == j else 0 for j in range(12)] for i in range(12)], Fraction(1, 12)),
    "twelve places, miss": ([[0 if i == j else 1 for j in range(12)] for i in range(12)], Fraction(11, 12)),
    "unlike places": (
        [[j + 1 if i == j else 0 for j in range(12)] for i in range(12)],
        1 / sum(Fraction(1, j + 1) for j in range(12)),
    ),
    "great and mixed": ([[GREAT, -GREAT], [-GREAT, GREAT]], Fraction(0)),
    "great and small": ([[GREAT, 0], [0, 1]], Fraction(GREAT, GREAT + 1)),
    "one row of twelve": ([list(range(12))], Fraction(11)),
    "one column of twelve": ([[k] for k in range(12)], Fraction(0)),
}

def bad_weights(many):
    """What are no weights, as many, for each way in which they can be none."""
    ones = [1] * (many - 1)
    return {
        "none": [], "one too few": ones, "one too many": ones + [1, 1], "below 0": ones + [-1],
        "first below 0": [-3] + ones[1:] + [9], "all 0": [0] * many, "a truth": ones + [True],
        "an untruth": ones + [False], "a text": ones + ["1"], "None in it": ones + [None], "a list in it": ones + [[1]],
        "a tuple": tuple(ones + [1]), "None": None, "a number": many, "text": "1" * many,
    }


def judged_apart(table, worth, rows, columns):
    """What point 6 says, written by fractions."""
    worth = Fraction(*worth)

    def are_weights(things, many):
        return len(things) == many and min(things) >= 0 and max(things) > 0

    if not are_weights(rows, len(table)):
        return ("rows",)
    if not are_weights(columns, len(table[0])):
        return ("columns",)
    for j in range(len(table[0])):
        if Fraction(sum(rows[i] * table[i][j] for i in range(len(table))), sum(rows)) > worth:
            return ("column", j)
    for i in range(len(table)):
        if Fraction(sum(columns[j] * table[i][j] for j in range(len(table[0]))), sum(columns)) < worth:
            return ("row", i)
    return None


def any_table(chance, rows, columns, great):
    return [[chance.randint(-great, great) for j in range(columns)] for i in range(rows)]


class Worths(unittest.TestCase):
    def assert_solved(self, table):
        answer = asked(self, table_worth, table)
        self.assertIs(type(answer), tuple)
        worth, rows, columns = answer
        self.assertEqual([type(part) for part in answer], [tuple, list, list])
        self.assertEqual({type(number) for number in numbers_in(answer)}, {int})
        self.assertEqual(len(worth), 2)
        self.assertGreaterEqual(worth[1], 1)
        self.assertEqual(math.gcd(*worth), 1)
        self.assertIsNone(judged_apart(table, worth, rows, columns))
        self.assertIsNone(asked(self, table_judged, table, worth, rows, columns))
        return Fraction(*worth)

    def test_known_worths(self):
        for name, (table, worth) in TABLES.items():
            with self.subTest(name):
                self.assertEqual(self.assert_solved(table), worth)

    def test_all_small_tables(self):
        for rows in range(1, 4):
            for columns in range(1, 4):
                chance = random.Random(rows * 10 + columns)
                for k in range(60):
                    self.assert_solved(any_table(chance, rows, columns, 2))

    def test_all_sizes(self):
        chance = random.Random(1)
        for rows in range(1, 13):
            for columns in range(1, 13):
                with self.subTest(rows=rows, columns=columns):
                    self.assert_solved(any_table(chance, rows, columns, 9))
                    self.assert_solved(any_table(chance, rows, columns, 1))

    def test_twelve_of_each_with_thirty_figures(self):
        chance = random.Random(2)
        for k in range(20):
            self.assert_solved(any_table(chance, 12, 12, GREAT))

    def test_twelve_of_each_that_need_all(self):
        chance = random.Random(3)
        for k in range(10):
            table = any_table(chance, 12, 12, 10 ** 25)
            for i in range(12):
                table[i][i] += chance.randint(10 ** 28, GREAT)
            worth, rows, columns = table_worth(table)
            self.assertGreater(min(rows), 0)
            self.assertGreater(min(columns), 0)
            self.assert_solved(table)

    def test_steep_tables(self):
        for base in (2, 3, 100):
            self.assert_solved([[base ** abs(i - j) for j in range(12)] for i in range(12)])
            self.assert_solved([[base ** (i * j % 13) for j in range(12)] for i in range(12)])
            self.assert_solved([[base ** (11 - i) if j >= i else -(base ** j) for j in range(12)] for i in range(12)])
            self.assert_solved([[(base * i) ** j + i for j in range(12)] for i in range(12)])

    def test_many_alike(self):
        chance = random.Random(6)
        for k in range(40):
            few = any_table(chance, 4, 4, 3)
            rows = [chance.randrange(4) for i in range(12)]
            columns = [chance.randrange(4) for j in range(12)]
            self.assert_solved([[few[i][j] for j in columns] for i in rows])

    def test_turned_and_with_other_sign_the_worth_changes_its_sign(self):
        chance = random.Random(7)
        for k in range(20):
            table = any_table(chance, chance.randint(1, 12), chance.randint(1, 12), GREAT)
            turned = [[-row[j] for row in table] for j in range(len(table[0]))]
            self.assertEqual(self.assert_solved(turned), -self.assert_solved(table))

    def test_one_list_at_several_places_of_the_table(self):
        row = [1, 5, 2]
        self.assertEqual(Fraction(*table_worth([row, row])[0]), 5)

    def test_two_askers_do_not_meet(self):
        first = table_worth([[1, 0], [0, 1]])
        kept = copy.deepcopy(first)
        table_worth([[9, 2, 3], [4, 8, 1]])
        table_judged([[1, 0], [0, 1]], *first)
        self.assertEqual(first, kept)


class Judge(unittest.TestCase):
    table = [[3, -1, 0], [-2, 1, 0]]

    def told(self, worth, rows, columns):
        return asked(self, table_judged, self.table, worth, rows, columns)

    def test_lets_by(self):
        self.assertIsNone(self.told((1, 7), [3, 4], [2, 5, 0]))
        self.assertIsNone(self.told((1, 7), [3 * GREAT, 4 * GREAT], [2, 5, 0]))

    def test_rows_first(self):
        for name, bad in bad_weights(2).items():
            with self.subTest(name):
                self.assertEqual(self.told((-9, 1), bad, [0, 0]), ("rows",))
                self.assertEqual(self.told((1, 7), bad, [2, 5, 0]), ("rows",))

    def test_columns_next(self):
        for name, bad in bad_weights(3).items():
            with self.subTest(name):
                self.assertEqual(self.told((-9, 1), [3, 4], bad), ("columns",))
                self.assertEqual(self.told((1, 7), [3, 4], bad), ("columns",))

    def test_the_first_column_then(self):
        self.assertEqual(self.told((-9, 1), [3, 4], [2, 5, 0]), ("column", 0))
        self.assertEqual(self.told((1, 8), [3, 4], [2, 5, 0]), ("column", 0))
        self.assertEqual(self.told((0, 1), [1, 2], [2, 5, 0]), ("column", 1))
        self.assertEqual(self.told((-1, 9), [1, 1], [1, 1, 1]), ("column", 0))
        self.assertEqual(self.told((-1, 4), [2, 3], [1, 0, 0]), ("column", 0))
        self.assertEqual(table_judged([[0, 0, 1], [0, 0, 1]], (0, 1), [1, 1], [1, 0, 0]), ("column", 2))

    def test_the_first_row_last(self):
        self.assertEqual(self.told((2, 7), [3, 4], [2, 5, 0]), ("row", 0))
        self.assertEqual(self.told((1, 7), [3, 4], [3, 5, 0]), ("row", 1))
        self.assertEqual(self.told((1, 7), [3, 4], [2, 5, 1]), ("row", 0))
        self.assertEqual(self.told((1, 7), [3, 4], [1, 5, 0]), ("row", 0))
        self.assertEqual(table_judged([[0], [0], [-1]], (0, 1), [1, 1, 0], [3]), ("row", 2))

    def test_a_hair_beside_the_worth(self):
        small = 10 ** 4000
        self.assertEqual(table_judged([[1, 0], [0, 1]], (small, 2 * small + 1), [1, 1], [1, 1]), ("column", 0))
        self.assertEqual(table_judged([[1, 0], [0, 1]], (small + 1, 2 * small + 1), [1, 1], [1, 1]), ("row", 0))

    def test_weights_of_whatever_size(self):
        huge = 10 ** 5000
        self.assertIsNone(table_judged([[1, 0], [0, 1]], (1, 2), [huge, huge], [3 * huge, 3 * huge]))
        self.assertEqual(table_judged([[1, 0], [0, 1]], (1, 2), [huge, huge + 1], [1, 1]), ("column", 1))
        self.assertEqual(table_judged([[1, 0], [0, 1]], (1, 2), [1, 1], [huge + 1, huge]), ("row", 1))

    def test_against_the_judge_by_fractions(self):
        chance = random.Random(8)
        told = set()
        for k in range(3000):
            table = any_table(chance, chance.randint(1, 4), chance.randint(1, 4), 3)
            worth, rows, columns = table_worth(table)
            if chance.randrange(3) == 0:
                rows[chance.randrange(len(rows))] += chance.randint(-1, 2)
            if chance.randrange(3) == 0:
                columns[chance.randrange(len(columns))] += chance.randint(-1, 2)
            if chance.randrange(3) == 0:
                moved = Fraction(*worth) + Fraction(chance.randint(-1, 1), chance.randint(1, 50))
                worth = (moved.numerator, moved.denominator)
            answer = table_judged(table, worth, rows, columns)
            self.assertEqual(answer, judged_apart(table, worth, rows, columns))
            told.add(answer)
        self.assertGreaterEqual(told, {None, ("rows",), ("columns",), ("column", 3), ("row", 3)})


class Best(unittest.TestCase):
    def test_rows(self):
        table = [[3, 1], [1, 3], [2, 2], [5, 0]]
        self.assertEqual(asked(self, best_rows, table, [1, 1]), [0, 1, 2])
        self.assertEqual(asked(self, best_rows, table, [0, 2]), [3])
        self.assertEqual(asked(self, best_rows, table, [GREAT, 0]), [1])
        self.assertEqual(asked(self, best_rows, [[4]], [1]), [0])
        self.assertEqual(asked(self, best_rows, [[-GREAT]] * 12, [1]), list(range(12)))

    def test_columns(self):
        table = [[3, 1, 2, 5], [1, 3, 2, -2]]
        self.assertEqual(asked(self, best_columns, table, [1, 1]), [0, 1, 2])
        self.assertEqual(asked(self, best_columns, table, [1, 0]), [3])
        self.assertEqual(asked(self, best_columns, table, [0, GREAT]), [1])
        self.assertEqual(asked(self, best_columns, [[4]], [1]), [0])
        self.assertEqual(asked(self, best_columns, [[-GREAT] * 12], [1]), list(range(12)))

    def test_against_sums(self):
        chance = random.Random(9)
        for k in range(300):
            table = any_table(chance, chance.randint(1, 12), chance.randint(1, 12), 2)
            columns = [chance.randint(0, 2) for number in table[0]][:-1] + [1]
            rows = [chance.randint(0, 2) for row in table][:-1] + [1]
            paid = [sum(w * number for w, number in zip(columns, row)) for row in table]
            got = [sum(w * row[j] for w, row in zip(rows, table)) for j in range(len(table[0]))]
            self.assertEqual(best_rows(table, columns), [i for i, p in enumerate(paid) if p == min(paid)])
            self.assertEqual(best_columns(table, rows), [j for j, p in enumerate(got) if p == max(got)])

    def test_by_the_worths_weights_the_other_side_pays_it(self):
        table = [[0, 2, -1], [-1, 0, 1], [1, -1, 0], [9, 9, 9]]
        worth, rows, columns = table_worth(table)
        for i in best_rows(table, columns):
            self.assertEqual(Fraction(sum(c * n for c, n in zip(columns, table[i])), sum(columns)), Fraction(*worth))
        for j in best_columns(table, rows):
            paid = sum(rows[i] * table[i][j] for i in range(4))
            self.assertEqual(Fraction(paid, sum(rows)), Fraction(*worth))
        self.assertNotIn(3, best_rows(table, columns))

    def test_no_weights(self):
        for name, bad in bad_weights(2).items():
            with self.subTest(name):
                refused(self, "NoWeights", best_rows, [[1, 2], [3, 4], [5, 6]], bad)
                refused(self, "NoWeights", best_columns, [[1, 2, 3], [4, 5, 6]], bad)


class NoTables(unittest.TestCase):
    def test_refused_ahead_of_all_else(self):
        for name, bad in NO_TABLES.items():
            with self.subTest(name):
                refused(self, "NoTable", table_worth, bad)
                for worth in ((1, 2), None):
                    refused(self, "NoTable", table_judged, bad, worth, [1], [1])
                    refused(self, "NoTable", table_judged, bad, worth, [], None)
                for weights in ([1], [], [0], None):
                    refused(self, "NoTable", best_rows, bad, weights)
                    refused(self, "NoTable", best_columns, bad, weights)

    def test_greater_numbers_are_not_refused(self):
        self.assertEqual(table_worth([[10 ** 60, 0], [0, 10 ** 60]])[0], (5 * 10 ** 59, 1))


if __name__ == "__main__":
    unittest.main()
