"""Points 2 and 24: matrices, their determinants and inverses."""

import random
import unittest
from fractions import Fraction
from itertools import permutations, product

from boxnarrow.matrices import determinant, inverse
from tests.chance import GRIDS
from tests.helping import check_matrix, copied, is_int
from tests.otherwise import determinant_otherwise, inverse_otherwise

# 300 figures.
FAR = 10 ** 299 + 7


def unit(many, one=1):
    return [[one if k == j else 0 for j in range(many)] for k in range(many)]


def matrix_by_chance(chance, many, far):
    return [[chance.choice((0, chance.randint(-far, far), chance.randint(-9, 9))) for j in range(many)] for k in range(many)]


class MatrixCase(unittest.TestCase):
    def check_determinant(self, matrix, wanted):
        kept = copied(matrix)
        answer = determinant(matrix)
        self.assertEqual(answer, wanted, matrix)
        self.assertTrue(is_int(answer))
        self.assertEqual(matrix, kept)

    def check_inverse(self, matrix, grid, wanted):
        kept = copied(matrix)
        answer = inverse(matrix, grid)
        self.assertEqual(answer, wanted, (matrix, grid))
        if wanted is None:
            self.assertIsNone(answer)
        else:
            check_matrix(self, answer, len(matrix))
        self.assertEqual(matrix, kept)

    def check_both(self, matrix):
        whole = determinant_otherwise(matrix)
        self.check_determinant(matrix, whole)
        for grid in GRIDS:
            wanted = inverse_otherwise(matrix, grid)
            self.assertEqual(wanted is None, whole == 0)
            self.check_inverse(matrix, grid, wanted)


class Determinants(MatrixCase):
    def test_one_to_four_rows(self):
        self.check_determinant([[7]], 7)
        self.check_determinant([[1, 2], [3, 4]], -2)
        self.check_determinant([[2, 0, 1], [1, 3, 2], [1, 1, 4]], 18)
        self.check_determinant([[1, 2, 0, 1], [0, 1, 3, 0], [2, 0, 1, 1], [1, 1, 0, 2]], 16)

    def test_nought(self):
        self.check_determinant([[0]], 0)
        self.check_determinant([[1, 2], [2, 4]], 0)
        self.check_determinant([[1, 2, 3], [4, 5, 6], [7, 8, 9]], 0)
        self.check_determinant([[1, 2, 3, 4], [0, 1, 0, 1], [1, 3, 3, 5], [9, 9, 9, 8]], 0)
        for many in range(1, 5):
            self.check_determinant([[0] * many for k in range(many)], 0)

    def test_one_and_below_nought(self):
        for many in range(1, 5):
            self.check_determinant(unit(many), 1)
            self.check_determinant(unit(many, -1), (-1) ** many)
            self.check_determinant(unit(many, 5), 5 ** many)
        self.check_determinant([[2, 1], [1, 1]], 1)
        self.check_determinant([[-7]], -7)

    def test_each_order_of_rows(self):
        # With rows put in another order each entry of 1 stands for one of the terms, and tells its sign.
        for many in range(1, 5):
            for order in permutations(range(many)):
                matrix = [unit(many)[place] for place in order]
                self.check_determinant(matrix, determinant_otherwise(matrix))

    def test_all_small_ones(self):
        for entries in product(range(-2, 3), repeat=4):
            self.check_determinant([list(entries[:2]), list(entries[2:])], entries[0] * entries[3] - entries[1] * entries[2])

    def test_three_hundred_figures(self):
        self.check_determinant([[-FAR]], -FAR)
        self.check_determinant([[FAR, FAR - 1], [FAR + 1, FAR]], 1)
        self.check_determinant([[FAR, FAR + 1], [FAR + 1, FAR]], -2 * FAR - 1)


class Inverses(MatrixCase):
    def test_one_entry(self):
        for entry, grid, wanted in (
            (1, 1, 1), (2, 1, 0), (-2, 1, -1), (-1, 1, -1), (3, 10, 33), (-3, 10, -34), (5, 10, 20), (-5, 10, -20), (100, 10, 1),
            (101, 10, 0), (-101, 10, -1), (7, 1000000, 142857142857), (-7, 1000000, -142857142858), (FAR, 1000000, 0),
            (-FAR, 1000000, -1), (1, 1000000, 10 ** 12),
        ):
            self.check_inverse([[entry]], grid, [[wanted]])

    def test_none(self):
        for grid in GRIDS:
            self.check_inverse([[0]], grid, None)
            self.check_inverse([[1, 2], [2, 4]], grid, None)
            self.check_inverse([[FAR, 2 * FAR], [2, 4]], grid, None)
            self.check_inverse([[1, 2, 3], [4, 5, 6], [7, 8, 9]], grid, None)
            self.check_inverse([[1, 2, 3, 4], [0, 1, 0, 1], [1, 3, 3, 5], [9, 9, 9, 8]], grid, None)
            for many in range(1, 5):
                self.check_inverse([[0] * many for k in range(many)], grid, None)

    def test_the_unit(self):
        for grid in GRIDS:
            for many in range(1, 5):
                self.check_inverse(unit(many, grid), grid, unit(many, grid))
                self.check_inverse(unit(many, -grid), grid, unit(many, -grid))

    def test_two_rows(self):
        # The fractions' matrix is that of 1, 2, 3, 4 tenths; its inverse that of -20, 10, 15, -5.
        self.check_inverse([[1, 2], [3, 4]], 10, [[-200, 100], [150, -50]])
        self.check_inverse([[1, 2], [3, 4]], 1, [[-2, 1], [1, -1]])
        self.check_inverse([[2, 1], [0, 3]], 1, [[0, -1], [0, 0]])
        self.check_inverse([[2, 1], [0, 3]], 6, [[18, -6], [0, 12]])

    def test_rows_and_columns_are_not_mixed_up(self):
        # Of the rows put in another order the columns of the inverse are in that order.
        for many in range(2, 5):
            for order in permutations(range(many)):
                matrix = [unit(many, 2)[place] for place in order]
                wanted = [[2 if order[column] == row else 0 for column in range(many)] for row in range(many)]
                self.check_inverse(matrix, 2, wanted)
        self.check_inverse([[1, 5], [0, 1]], 1, [[1, -5], [0, 1]])
        self.check_inverse([[1, 5, 0], [0, 1, 0], [0, 7, 1]], 1, [[1, -5, 0], [0, 1, 0], [0, -7, 1]])
        self.check_inverse(
            [[1, 0, 0, 0], [0, 1, 0, 0], [3, 0, 1, 0], [0, 0, 0, 1]], 1,
            [[1, 0, 0, 0], [0, 1, 0, 0], [-3, 0, 1, 0], [0, 0, 0, 1]],
        )

    def test_the_greatest_step_that_is_no_greater(self):
        chance = random.Random(24)
        for number in range(150):
            many = chance.randint(1, 4)
            grid = chance.choice(GRIDS)
            matrix = matrix_by_chance(chance, many, 99)
            answer = inverse(matrix, grid)
            if answer is None:
                continue
            # The product with the matrix shows that it is the true inverse.
            true = [[Fraction(entry, grid) for entry in row] for row in self.true_inverse(matrix, grid)]
            for k, j in product(range(many), repeat=2):
                entry = sum(Fraction(matrix[k][place], grid) * true[place][j] for place in range(many))
                self.assertEqual(entry, k == j)
                self.assertTrue(answer[k][j] <= true[k][j] * grid < answer[k][j] + 1)

    def true_inverse(self, matrix, grid):
        """The inverse in steps, not rounded: rounded on a grid so fine that each entry lies on a step of it."""
        finer = abs(determinant_otherwise(matrix))
        fine = inverse_otherwise([[entry * finer for entry in row] for row in matrix], grid * finer)
        return [[Fraction(entry, finer) for entry in row] for row in fine]


class Otherwise(MatrixCase):
    def test_all_small_ones(self):
        for entry in range(-4, 5):
            self.check_both([[entry]])
        for entries in product(range(-2, 3), repeat=4):
            self.check_both([list(entries[:2]), list(entries[2:])])

    def test_three_and_four_rows_of_small_entries(self):
        chance = random.Random(241)
        none = 0
        for number in range(250):
            matrix = matrix_by_chance(chance, 3 + number % 2, 3)
            self.check_both(matrix)
            none += determinant_otherwise(matrix) == 0
        self.assertGreater(none, 10)

    def test_three_hundred_figures(self):
        chance = random.Random(242)
        for number in range(60):
            self.check_both(matrix_by_chance(chance, 1 + number % 4, FAR))


class AskersOwn(MatrixCase):
    def test_told_again(self):
        matrix = [[1, 2], [3, 4]]
        answer = inverse(matrix, 10)
        answer[0].clear()
        answer.clear()
        self.assertEqual(inverse(matrix, 10), [[-200, 100], [150, -50]])
        self.assertEqual(matrix, [[1, 2], [3, 4]])

    def test_an_inverse_that_is_the_matrix_is_a_new_one(self):
        matrix = unit(3)
        answer = inverse(matrix, 1)
        answer[0][0] = 5
        answer[1].clear()
        answer.pop()
        self.assertEqual(matrix, unit(3))
        self.assertEqual(inverse(matrix, 1), unit(3))

    def test_lists_changed_later(self):
        matrix = [[1, 2], [3, 4]]
        answer = inverse(matrix, 10)
        matrix[0].clear()
        matrix.clear()
        self.assertEqual(answer, [[-200, 100], [150, -50]])


if __name__ == "__main__":
    unittest.main()
