"""Points 2 and 8: the way back through a product and through a power."""

import random
import unittest

from boxnarrow.backs import back_power, back_times
from tests.helping import check_span
from tests.otherwise import power_otherwise, times_otherwise

SMALL = [(low, high) for low in range(-3, 4) for high in range(low, 4)]
GRIDS = (1, 2, 3, 1000000)
FORTY = 10 ** 39 + 7


class BackCase(unittest.TestCase):
    def check(self, answer, wanted):
        if answer is not None:
            check_span(self, answer)
        self.assertEqual(answer, wanted)

    def check_times(self, cases, grid=1):
        for z, x, y, wanted in cases:
            with self.subTest(z=z, x=x, y=y, grid=grid):
                self.check(back_times(z, x, y, grid), wanted)

    def check_power(self, cases, grid=1):
        for z, x, many, wanted in cases:
            with self.subTest(z=z, x=x, many=many, grid=grid):
                self.check(back_power(z, x, many, grid), wanted)


class Times(BackCase):
    def test_y_without_nought(self):
        self.check_times((
            ((6, 12), (-100, 100), (2, 3), (2, 6)), ((6, 12), (-100, 100), (-3, -2), (-6, -2)),
            ((-12, -6), (-100, 100), (2, 3), (-6, -2)), ((-12, -6), (-100, 100), (-3, -2), (2, 6)),
            ((6, 12), (3, 5), (2, 3), (3, 5)), ((6, 12), (5, 9), (2, 3), (5, 6)), ((6, 12), (0, 2), (2, 3), (2, 2)),
        ))

    def test_z_with_nought_and_y_without(self):
        self.check_times((
            ((-6, 12), (-100, 100), (2, 3), (-3, 6)), ((-6, 12), (-100, 100), (-3, -2), (-6, 3)),
            ((0, 12), (-100, 100), (2, 3), (0, 6)), ((-6, 0), (-100, 100), (2, 3), (-3, 0)),
            ((0, 12), (-100, 100), (-3, -2), (-6, 0)), ((0, 0), (-100, 100), (2, 3), (0, 0)),
            ((0, 0), (1, 100), (2, 3), None), ((0, 0), (-100, 0), (-3, 0), (-100, 0)),
        ))

    def test_y_with_nought_within(self):
        self.check_times((
            ((6, 12), (-100, 100), (-2, 3), (-100, 100)), ((6, 12), (-5, 5), (-2, 3), (-5, 5)),
            ((6, 12), (-2, 5), (-2, 3), (2, 5)), ((6, 12), (-5, 1), (-2, 3), (-5, -3)),
            ((6, 12), (-2, 1), (-2, 3), None), ((-12, -6), (-2, 5), (-2, 3), (-2, 5)),
            ((-12, -6), (-1, 2), (-2, 3), None), ((-12, -6), (-1, 5), (-2, 3), (3, 5)),
            ((-12, -6), (-5, 2), (-2, 3), (-5, -2)), ((1, 1), (-1, 1), (-2, 2), (-1, 1)),
        ))

    def test_y_with_nought_as_an_end(self):
        self.check_times((
            ((6, 12), (-100, 100), (0, 3), (2, 100)), ((6, 12), (-100, 1), (0, 3), None),
            ((6, 12), (-100, 100), (-3, 0), (-100, -2)), ((6, 12), (-1, 100), (-3, 0), None),
            ((-12, -6), (-100, 100), (0, 3), (-100, -2)), ((-12, -6), (-100, 100), (-3, 0), (2, 100)),
            ((-12, -6), (-1, 100), (0, 3), None), ((-12, -6), (-100, 1), (-3, 0), None),
        ))

    def test_y_of_nought_alone(self):
        self.check_times((
            ((1, 5), (-9, 9), (0, 0), None), ((-5, -1), (-9, 9), (0, 0), None), ((-5, 1), (-9, 9), (0, 0), (-9, 9)),
            ((0, 5), (3, 3), (0, 0), (3, 3)), ((-5, 0), (-3, 4), (0, 0), (-3, 4)), ((0, 0), (0, 0), (0, 0), (0, 0)),
        ))

    def test_nought_in_both_leaves_x(self):
        for grid in GRIDS:
            for y in ((-1, 1), (0, 1), (-1, 0), (0, 0)):
                for z in ((-1, 1), (0, 1), (-1, 0), (0, 0)):
                    for x in ((-7, -7), (5, 9), (-4, 6), (-FORTY, FORTY)):
                        self.check(back_times(z, x, y, grid), x)

    def test_x_of_one_number(self):
        self.check_times((
            ((6, 12), (3, 3), (2, 3), (3, 3)), ((6, 12), (7, 7), (2, 3), None), ((6, 12), (1, 1), (2, 3), None),
            ((5, 5), (2, 2), (2, 3), (2, 2)), ((7, 7), (2, 2), (2, 3), None), ((0, 0), (0, 0), (2, 3), (0, 0)),
            ((1, 1), (0, 0), (-5, 5), None),
        ))

    def test_between_two_steps(self):
        self.check_times((
            ((1, 1), (-9, 9), (2, 2), (0, 1)), ((-1, -1), (-9, 9), (2, 2), (-1, 0)), ((7, 7), (-9, 9), (3, 3), (2, 3)),
            ((-7, -7), (-9, 9), (3, 3), (-3, -2)), ((7, 8), (0, 9), (3, 3), (2, 3)), ((7, 7), (2, 3), (3, 3), (2, 3)),
        ))

    def test_beside_a_step(self):
        # The one number, 7/3 steps, lies above the first x and below the second, though both hold a step next to it.
        self.check_times((
            ((7, 7), (0, 2), (3, 3), None), ((7, 7), (3, 9), (3, 3), None), ((7, 7), (2, 2), (3, 3), None),
            ((-7, -7), (-2, 0), (3, 3), None), ((-7, -7), (-9, -3), (3, 3), None), ((6, 6), (0, 2), (3, 3), (2, 2)),
            ((1, 9), (-9, 0), (2, 3), None), ((-9, -1), (0, 9), (2, 3), None), ((7, 9), (-2, 1), (-3, 5), None),
        ))

    def test_grids(self):
        self.check_times((
            ((6, 12), (-100, 100), (2, 3), (20, 60)), ((1, 1), (-100, 100), (3, 3), (3, 4)),
            ((1, 1), (0, 3), (3, 3), None), ((1, 1), (4, 9), (3, 3), None),
        ), grid=10)
        self.check_times((
            ((1, 2), (-10 ** 9, 10 ** 9), (3, 3), (333333, 666667)), ((1, 1), (333333, 333333), (3, 3), None),
            ((1, 1), (333333, 333334), (3, 3), (333333, 333334)), ((1, 1), (-5, 999999), (-1, 1), None),
            ((1, 1), (-5, 1000000), (-1, 1), (1000000, 1000000)),
        ), grid=1000000)

    def test_all_small_ones(self):
        for grid in GRIDS:
            for z in SMALL:
                for y in SMALL:
                    for x in SMALL:
                        self.check(back_times(z, x, y, grid), times_otherwise(z, x, y, grid))

    def test_ends_of_forty_figures(self):
        chance = random.Random(8)
        ends = [0, 1, -1, FORTY, -FORTY, FORTY // 3, -FORTY // 3]
        ends += [chance.randint(-10 ** 40, 10 ** 40) for number in range(6)]
        for number in range(3000):
            z, x, y = [tuple(sorted([chance.choice(ends), chance.choice(ends)])) for span in range(3)]
            # The products have twice the figures of their parts.
            z = tuple(end * chance.choice((1, FORTY)) for end in z)
            z = (min(z), max(z))
            grid = chance.choice((1, 7, 64, 1000000))
            self.check(back_times(z, x, y, grid), times_otherwise(z, x, y, grid))

    def test_forty_figures_by_a_hair(self):
        for grid in (1, 1000000):
            square = (FORTY * grid, FORTY * grid)
            wide = (-10 ** 60, 10 ** 60)
            self.check(back_times(square, wide, (grid * grid, grid * grid), grid), (FORTY, FORTY))
            self.check(back_times((FORTY, FORTY), (FORTY * grid, wide[1]), (1, 1), grid), (FORTY * grid, FORTY * grid))
            self.check(back_times((FORTY, FORTY), (FORTY * grid + 1, wide[1]), (1, 1), grid), None)
            self.check(back_times((FORTY, FORTY), (wide[0], FORTY * grid - 1), (1, 1), grid), None)

    def test_hundreds_of_figures(self):
        end = 10 ** 399 + 1
        self.check(back_times((end, end), (-end, end), (3, 3), 1), (end // 3, end // 3 + 1))
        self.check(back_times((-end, -end), (-end, end), (3, 3), 1), (-end // 3, -end // 3 + 1))


class Power(BackCase):
    def test_the_square_root_of_two(self):
        self.check_power((
            ((2, 2), (0, 2), 2, (1, 2)), ((2, 2), (-2, 2), 2, (-2, 2)), ((2, 2), (-2, 0), 2, (-2, -1)),
            ((2, 2), (1, 2), 2, (1, 2)), ((2, 2), (-2, 1), 2, (-2, -1)), ((2, 2), (-1, 1), 2, None),
            ((2, 2), (1, 1), 2, None), ((2, 2), (2, 2), 2, None), ((2, 2), (2, 9), 2, None), ((2, 2), (-1, 9), 2, (1, 2)),
        ))

    def test_even_powers(self):
        self.check_power((
            ((4, 9), (-9, 9), 2, (-3, 3)), ((4, 9), (0, 9), 2, (2, 3)), ((4, 9), (-9, 0), 2, (-3, -2)),
            ((4, 9), (-1, 9), 2, (2, 3)), ((4, 9), (-9, 1), 2, (-3, -2)), ((4, 9), (-1, 1), 2, None),
            ((16, 81), (-9, 9), 4, (-3, 3)), ((64, 729), (0, 9), 6, (2, 3)), ((65, 728), (-9, 9), 6, (-3, 3)),
            ((65, 728), (0, 2), 6, None), ((65, 728), (3, 9), 6, None), ((65, 728), (-2, 3), 6, (2, 3)),
        ))

    def test_odd_powers(self):
        self.check_power((
            ((8, 27), (-9, 9), 3, (2, 3)), ((-27, -8), (-9, 9), 3, (-3, -2)), ((-8, 27), (-9, 9), 3, (-2, 3)),
            ((-8, 27), (-1, 1), 3, (-1, 1)), ((8, 27), (-9, 1), 3, None), ((-27, -8), (-1, 9), 3, None),
            ((-32, 243), (-9, 9), 5, (-2, 3)), ((-33, 244), (-9, 9), 5, (-3, 4)), ((33, 33), (-9, 2), 5, None),
            ((-33, -33), (-2, 9), 5, None), ((-33, -33), (-9, -2), 5, (-3, -2)), ((-2, -2), (-2, 0), 3, (-2, -1)),
        ))

    def test_z_below_nought(self):
        for many in (2, 4, 6):
            self.check_power((((-9, -1), (-9, 9), many, None), ((-1, -1), (0, 0), many, None)))
        for many in (3, 5):
            self.check_power((((-9, -1), (0, 9), many, None), ((-1, -1), (-9, 9), many, (-1, -1))))

    def test_z_with_nought(self):
        self.check_power((
            ((-5, 9), (-9, 9), 2, (-3, 3)), ((0, 9), (-9, 9), 2, (-3, 3)), ((0, 9), (1, 2), 2, (1, 2)),
            ((-5, 0), (-9, 9), 2, (0, 0)), ((0, 0), (-9, 9), 2, (0, 0)), ((0, 0), (1, 9), 2, None),
            ((-5, 0), (-9, -1), 4, None), ((0, 8), (-9, 9), 3, (0, 2)), ((-8, 0), (-9, 9), 3, (-2, 0)),
            ((0, 0), (-9, 9), 3, (0, 0)), ((0, 0), (-9, -1), 5, None), ((-1, 2), (-9, -1), 2, (-2, -1)),
        ))

    def test_on_a_step_and_beside_it(self):
        for many in range(2, 7):
            for place in (1, 2, 3, 10, 99, 10 ** 6):
                one = place ** many
                self.check_power((
                    ((one, one), (0, 10 ** 7), many, (place, place)),
                    ((one + 1, one + 1), (0, 10 ** 7), many, (place, place + 1)),
                    ((one - 1, one - 1), (0, 10 ** 7), many, (place - 1, place) if place > 1 else (0, 0)),
                    ((one, one), (place, place), many, (place, place)), ((one + 1, one + 1), (place, place), many, None),
                    ((one - 1, one - 1), (place, place), many, None), ((one + 1, one + 1), (0, place), many, None),
                    ((one - 1, one - 1), (place, 10 ** 7), many, None),
                ))

    def test_grids(self):
        self.check_power((
            ((20, 20), (0, 100), 2, (14, 15)), ((2, 3), (-100, 100), 2, (-6, 6)), ((2, 3), (0, 100), 2, (4, 6)),
            ((1, 1), (0, 100), 3, (4, 5)), ((1, 1), (0, 4), 3, None), ((10, 10), (-100, 100), 6, (-10, 10)),
            ((-10, -10), (-100, 100), 5, (-10, -10)),
        ), grid=10)
        self.check_power((
            ((2000000, 2000000), (0, 9000000), 2, (1414213, 1414214)), ((1, 1), (-10 ** 9, 10 ** 9), 2, (-1000, 1000)),
            ((1, 1), (0, 10 ** 9), 6, (100000, 100000)), ((-1, -1), (-10 ** 9, 10 ** 9), 3, (-10000, -10000)),
            ((2, 2), (0, 1414), 2, None), ((2, 2), (0, 1415), 2, (1414, 1415)), ((2, 2), (1415, 9999), 2, None),
        ), grid=1000000)

    def test_all_small_ones(self):
        for many in range(2, 7):
            for grid in (1, 2, 3):
                for z in [(low, high) for low in range(-10, 11) for high in range(low, 11)]:
                    for x in SMALL:
                        self.check(back_power(z, x, many, grid), power_otherwise(z, x, many, grid))

    def test_wider_ones(self):
        chance = random.Random(88)
        for number in range(3000):
            many = chance.randint(2, 6)
            grid = chance.choice((1, 2, 5, 7))
            most = 12 ** many
            z = tuple(sorted([chance.randint(-most, most) // grid, chance.randint(-most, most) // grid]))
            x = tuple(sorted([chance.randint(-40, 40), chance.randint(-40, 40)]))
            self.check(back_power(z, x, many, grid), power_otherwise(z, x, many, grid))

    def check_root(self, z, many, grid):
        # Of x from 0 on, so wide that it bounds nothing: both ends are held against their powers.
        x = (0, 10 ** 300)
        low, high = back_power(z, x, many, grid)
        scale = grid ** (many - 1)
        self.assertLessEqual(low ** many, z[0] * scale)
        self.assertGreater((low + 1) ** many, z[0] * scale)
        self.assertGreaterEqual(high ** many, z[1] * scale)
        self.assertLess((high - 1) ** many, z[1] * scale)
        turned = (-x[1], 0)
        if many % 2 == 0:
            self.check(back_power(z, turned, many, grid), (-high, -low))
            self.check(back_power(z, (-x[1], x[1]), many, grid), (-high, high))
        else:
            self.check(back_power(z, turned, many, grid), None)
            self.check(back_power((-z[1], -z[0]), turned, many, grid), (-high, -low))
            self.check(back_power((-z[1], z[1]), (-x[1], x[1]), many, grid), (-high, high))

    def test_ends_of_fifteen_figures(self):
        ends = (10 ** 14, 123456789012345, 314159265358979, 999999999999998, 999999999999999)
        for many in range(2, 7):
            for place, low in enumerate(ends):
                for high in ends[place:]:
                    self.check_root((low, high), many, 1000000)
                    self.check_root((low, high), many, 1)

    def test_fifteen_figures_by_a_hair(self):
        end = 999999999999999
        self.check_power((
            ((end * end // 1000000, end * end // 1000000 + 1), (end, end), 2, (end, end)),
            ((end * end // 1000000, end * end // 1000000), (end, end), 2, None),
            ((end * end // 1000000 + 1, end * end), (0, end), 2, None),
        ), grid=1000000)

    def test_hundreds_of_figures(self):
        for many in range(2, 7):
            self.check_root((10 ** 398 + 3, 10 ** 399 + 7), many, 1000000)
            place = 10 ** 66 + 1
            self.check(back_power((place ** many, place ** many), (0, 10 ** 80), many, 1), (place, place))


class AskedAgain(unittest.TestCase):
    def test_told_again(self):
        def ask():
            return [
                back_times((6, 12), (-5, 5), (-2, 3), 1), back_times((7, 7), (0, 2), (3, 3), 1),
                back_power((2, 2), (0, 2), 2, 1), back_power((-1, -1), (0, 2), 2, 1),
            ]
        self.assertEqual(ask(), [(-5, 5), None, (1, 2), None])
        self.assertEqual(ask(), [(-5, 5), None, (1, 2), None])


if __name__ == "__main__":
    unittest.main()
