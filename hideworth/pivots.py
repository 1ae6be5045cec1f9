"""The finding of a table's worth: sums over whole numbers, unknown swapped for unknown."""

from hideworth.ratios import lowest, plus, ratio


# The seeker's weights over the worth are unknowns whose sum is to be as great as it can, while no column of the
# table comes to more than 1; each column has an unknown too, what it lacks of 1. Of all unknowns those in `idle`
# are 0. All numbers of the grid are tops over the one bottom `scale`: so there is no rounding and no fraction.
class Board:
    def __init__(self, grid):
        self.grid = grid
        self.scale = 1
        self.idle = list(range(len(grid[0]) - 1))
        self.busy = [len(self.idle) + k for k in range(len(grid) - 1)]
        self.stuck = False

    # The unknown that helps most for its length comes in: so few swaps are needed. Behind a swap that gained nothing
    # it is the least one that helps, and of those that must go the least one goes, till something is gained: by this
    # choice (Bland's) no state comes back, so the swapping ends.
    def entering(self):
        helping = [k for k in range(len(self.idle)) if self.grid[-1][k] < 0]
        if not helping:
            return None
        if self.stuck:
            return min(helping, key=lambda k: self.idle[k])
        return self.steepest(helping)

    def steepest(self, columns):
        best = columns[0]
        most = self.steepness(best)
        for k in columns[1:]:
            here = self.steepness(k)
            if here[0] * most[1] > most[0] * here[1]:
                best = k
                most = here
        return best

    def steepness(self, column):
        # Squares, top and bottom: what is gained, over how far all unknowns together go for it.
        squares = [row[column] * row[column] for row in self.grid]
        return (squares[-1], self.scale * self.scale + sum(squares[:-1]))

    def leaving(self, column):
        best = None
        for k in range(len(self.busy)):
            if self.grid[k][column] > 0 and (best is None or self.is_sooner(k, best, column)):
                best = k
        return best

    def is_sooner(self, k, best, column):
        here = self.grid[k][-1] * self.grid[best][column]
        there = self.grid[best][-1] * self.grid[k][column]
        return here < there or (here == there and self.busy[k] < self.busy[best])

    def swap(self, row, column):
        pivot = self.grid[row][column]
        self.stuck = self.grid[row][-1] == 0
        self.grid = [self.swapped_row(k, row, column) for k in range(len(self.grid))]
        self.scale = pivot
        name = self.busy[row]
        self.busy[row] = self.idle[column]
        self.idle[column] = name

    def swapped_row(self, k, row, column):
        ahead = self.grid[row]
        if k == row:
            fresh = list(ahead)
            fresh[column] = self.scale
            return fresh
        old = self.grid[k]
        # The division leaves no rest: each number is a determinant of the first grid's numbers.
        fresh = [(ahead[column] * old[j] - old[column] * ahead[j]) // self.scale for j in range(len(old))]
        fresh[column] = -old[column]
        return fresh


def first_grid(table, lift):
    grid = [[row[j] + lift for row in table] + [1] for j in range(len(table[0]))]
    return grid + [[-1 for row in table] + [0]]


def row_weights(board, many):
    weights = [0 for k in range(many)]
    for k, name in enumerate(board.busy):
        if name < many:
            weights[name] = board.grid[k][-1]
    return lowest(weights)


def column_weights(board, rows, many):
    weights = [0 for k in range(many)]
    for k, name in enumerate(board.idle):
        if name >= rows:
            weights[name - rows] = board.grid[-1][k]
    return lowest(weights)


def solved(table):
    # Lifted so that all numbers are above 0, the table has a worth above 0, by which weights can be divided.
    lift = 1 - min([min(row) for row in table])
    board = Board(first_grid(table, lift))
    column = board.entering()
    while column is not None:
        board.swap(board.leaving(column), column)
        column = board.entering()
    worth = plus(ratio(board.scale, board.grid[-1][-1]), (-lift, 1))
    rows = len(table)
    return (worth, row_weights(board, rows), column_weights(board, rows, len(table[0])))
