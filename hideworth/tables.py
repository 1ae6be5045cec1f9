"""Tables: what is paid for each plan of the seeker (a row) and of the hider (a column)."""

from hideworth.checks import are_weights, is_whole
from hideworth.errors import NoTable, NoWeights
from hideworth.pivots import solved

MOST = 12


def is_row(thing):
    return isinstance(thing, list) and 1 <= len(thing) <= MOST and all([is_whole(number) for number in thing])


def is_table(thing):
    if not isinstance(thing, list) or not 1 <= len(thing) <= MOST:
        return False
    return all([is_row(row) for row in thing]) and all([len(row) == len(thing[0]) for row in thing])


def look_table(table):
    if not is_table(table):
        raise NoTable("a table is one to twelve rows of one to twelve whole numbers, in each as many")


def row_sums(table, columns):
    return [sum([weight * number for weight, number in zip(columns, row)]) for row in table]


def column_sums(table, rows):
    many = len(table[0])
    return [sum([weight * row[j] for weight, row in zip(rows, table)]) for j in range(many)]


def first_column_above(table, worth, rows):
    bound = worth[0] * sum(rows)
    for j, paid in enumerate(column_sums(table, rows)):
        if paid * worth[1] > bound:
            return j
    return None


def first_row_below(table, worth, columns):
    bound = worth[0] * sum(columns)
    for i, paid in enumerate(row_sums(table, columns)):
        if paid * worth[1] < bound:
            return i
    return None


def table_judged(table, worth, rows, columns):
    look_table(table)
    if not are_weights(rows, len(table)):
        return ("rows",)
    if not are_weights(columns, len(table[0])):
        return ("columns",)
    j = first_column_above(table, worth, rows)
    if j is not None:
        return ("column", j)
    i = first_row_below(table, worth, columns)
    if i is not None:
        return ("row", i)
    return None


def table_worth(table):
    look_table(table)
    return solved(table)


def best_rows(table, columns):
    look_table(table)
    if not are_weights(columns, len(table[0])):
        raise NoWeights("the hider's weights are one for each column, from 0 on, not all 0")
    sums = row_sums(table, columns)
    least = min(sums)
    return [i for i, paid in enumerate(sums) if paid == least]


def best_columns(table, rows):
    look_table(table)
    if not are_weights(rows, len(table)):
        raise NoWeights("the seeker's weights are one for each row, from 0 on, not all 0")
    sums = column_sums(table, rows)
    most = max(sums)
    return [j for j, paid in enumerate(sums) if paid == most]
