"""Points 2 and 4: whole numbers, fractions and how they are reckoned with."""

import unittest
from fractions import Fraction
from math import gcd

from boxnarrow import errors
from boxnarrow.fractions import fraction, less, minus, plus, power, times
from tests.helping import LONG, LONGER, check_pair, refused

SMALL = sorted({Fraction(top, bottom) for top in range(-5, 6) for bottom in range(1, 6)})
LARGE = [Fraction(LONG, LONGER), Fraction(-LONGER, LONG), Fraction(LONG), Fraction(1, LONG), Fraction(-1, LONGER)]


def pair(number):
    return (number.numerator, number.denominator)


class Making(unittest.TestCase):
    def made(self, top, bottom):
        answer = fraction(top, bottom)
        check_pair(self, answer)
        self.assertGreaterEqual(answer[1], 1)
        self.assertEqual(gcd(answer[0], answer[1]), 1)
        self.assertEqual(answer[0] * bottom, top * answer[1])
        return answer

    def test_lowest_terms(self):
        self.assertEqual(self.made(6, 4), (3, 2))
        self.assertEqual(self.made(3, 2), (3, 2))
        self.assertEqual(self.made(12, 4), (3, 1))
        self.assertEqual(self.made(-6, 4), (-3, 2))

    def test_bottom_below_nought(self):
        self.assertEqual(self.made(6, -4), (-3, 2))
        self.assertEqual(self.made(-6, -4), (3, 2))
        self.assertEqual(self.made(5, -1), (-5, 1))
        self.assertEqual(self.made(1, -7), (-1, 7))

    def test_top_of_nought(self):
        for bottom in (1, 2, 97, -1, -8, LONG, -LONG):
            self.assertEqual(self.made(0, bottom), (0, 1))

    def test_all_small_ones(self):
        for top in range(-30, 31):
            for bottom in range(-30, 31):
                if bottom != 0:
                    self.assertEqual(self.made(top, bottom), pair(Fraction(top, bottom)))

    def test_hundreds_of_figures(self):
        self.assertEqual(self.made(LONG, LONGER), (LONG, LONGER))
        self.assertEqual(self.made(-LONG, -LONGER), (LONG, LONGER))
        self.assertEqual(self.made(LONG, LONG), (1, 1))
        self.assertEqual(self.made(3 * 10 ** 398, -2 * 10 ** 399), (-3, 20))
        self.assertEqual(self.made(7 ** 400, 7 ** 401), (1, 7))


class Refusing(unittest.TestCase):
    def test_bottom_of_nought(self):
        for top in (0, 1, -1, LONG):
            refused(self, errors.NoNumber, fraction, top, 0)

    def test_truths_are_no_whole_numbers(self):
        for truth in (True, False):
            refused(self, errors.NoNumber, fraction, truth, 2)
            refused(self, errors.NoNumber, fraction, 2, truth)
            refused(self, errors.NoNumber, fraction, truth, truth)

    def test_other_kinds(self):
        for value in (None, "1", "", 1.0, 0.5, [1], (1,), (1, 2), {}, {1: 2}, b"1", Fraction(1, 2), 1j):
            with self.subTest(value=value):
                refused(self, errors.NoNumber, fraction, value, 1)
                refused(self, errors.NoNumber, fraction, 1, value)
                refused(self, errors.NoNumber, fraction, value, value)
                refused(self, errors.NoNumber, fraction, value, 0)


class Reckoning(unittest.TestCase):
    def check(self, answer, number):
        check_pair(self, answer)
        self.assertEqual(answer, pair(number))

    def check_both(self, one, other):
        a = pair(one)
        b = pair(other)
        self.check(plus(a, b), one + other)
        self.check(minus(a, b), one - other)
        self.check(times(a, b), one * other)
        answer = less(a, b)
        self.assertIs(answer, one < other)
        self.assertEqual((a, b), (pair(one), pair(other)))

    def test_plain(self):
        self.assertEqual(plus((1, 6), (1, 3)), (1, 2))
        self.assertEqual(plus((1, 2), (-1, 2)), (0, 1))
        self.assertEqual(minus((1, 6), (1, 2)), (-1, 3))
        self.assertEqual(minus((2, 3), (2, 3)), (0, 1))
        self.assertEqual(times((2, 3), (-3, 4)), (-1, 2))
        self.assertEqual(times((0, 1), (-3, 4)), (0, 1))

    def test_small_ones(self):
        for one in SMALL:
            for other in SMALL:
                self.check_both(one, other)

    def test_hundreds_of_figures(self):
        for one in LARGE:
            for other in LARGE + SMALL[:3]:
                self.check_both(one, other)
                self.check_both(other, one)

    def test_powers(self):
        for number in SMALL + LARGE:
            for many in range(1, 7):
                self.check(power(pair(number), many), number ** many)

    def test_powers_plain(self):
        self.assertEqual(power((-2, 3), 1), (-2, 3))
        self.assertEqual(power((-2, 3), 2), (4, 9))
        self.assertEqual(power((-2, 3), 3), (-8, 27))
        self.assertEqual(power((0, 1), 6), (0, 1))
        self.assertEqual(power((1, 2), 6), (1, 64))

    def test_less(self):
        self.assertIs(less((1, 3), (1, 2)), True)
        self.assertIs(less((1, 2), (1, 3)), False)
        self.assertIs(less((1, 2), (1, 2)), False)
        self.assertIs(less((-1, 2), (-1, 3)), True)
        self.assertIs(less((-1, 3), (-1, 2)), False)
        self.assertIs(less((-1, 1), (0, 1)), True)
        self.assertIs(less((0, 1), (0, 1)), False)

    def test_less_by_a_hair(self):
        one = (LONG, LONGER)
        other = (LONG + 1, LONGER + 1)
        self.assertIs(less(one, other), True)
        self.assertIs(less(other, one), False)
        self.assertIs(less(one, one), False)

    def test_asked_again_told_again(self):
        first = [plus((1, 6), (1, 3)), power((2, 3), 5), fraction(10, -4)]
        refused(self, errors.NoNumber, fraction, 1, 0)
        self.assertEqual([plus((1, 6), (1, 3)), power((2, 3), 5), fraction(10, -4)], first)


if __name__ == "__main__":
    unittest.main()
