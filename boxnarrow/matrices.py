"""Matrices: lists of rows of whole numbers, their determinants and inverses."""


def signed(number, place):
    return -number if place % 2 == 1 else number


def without(matrix, row, column):
    rest = matrix[:row] + matrix[row + 1:]
    return [entries[:column] + entries[column + 1:] for entries in rest]


def cofactor(matrix, row, column):
    return signed(determinant(without(matrix, row, column)), row + column)


def determinant(matrix):
    # The matrix without rows is what is left of one with a single entry.
    if len(matrix) == 0:
        return 1
    return sum([entry * cofactor(matrix, 0, column) for column, entry in enumerate(matrix[0])])


def inverse_entry(matrix, whole, row, column, grid):
    # Entries that are grid times too great make an inverse that is as many times too small; counted in steps it is
    # grid times more again. Rounded once, at last.
    return cofactor(matrix, column, row) * grid * grid // whole


def inverse_row(matrix, whole, row, grid):
    return [inverse_entry(matrix, whole, row, column, grid) for column in range(len(matrix))]


def inverse(matrix, grid):
    whole = determinant(matrix)
    if whole == 0:
        return None
    return [inverse_row(matrix, whole, row, grid) for row in range(len(matrix))]
