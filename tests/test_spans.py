"""Points 2, 5, 6 and 7: spans, told as the least ones."""

import unittest
from fractions import Fraction
from math import ceil, floor

from boxnarrow import errors, spans
from tests.helping import LONG, LONGER, check_span, is_int, refused

GRIDS = (1, 2, 3, 7, 10, 64, 1000000)
SMALL = [(low, high) for low in range(-3, 4) for high in range(low, 4)]


def pair(number):
    return (number.numerator, number.denominator)


def least(numbers, grid):
    """The least span of all numbers between the least and the greatest of numbers."""
    return (floor(min(numbers) * grid), ceil(max(numbers) * grid))


def half_steps(span):
    """Numbers of a span, in half steps: its ends, its whole steps (so 0, too) and what is halfway."""
    return range(2 * span[0], 2 * span[1] + 1)


def up(top, bottom):
    return -(-top // bottom)


class SpanCase(unittest.TestCase):
    def check(self, answer, wanted):
        check_span(self, answer)
        self.assertEqual(answer, wanted)


class OfFractions(SpanCase):
    def test_on_the_grid(self):
        self.check(spans.span_of((1, 2), (3, 1), 2), (1, 6))
        self.check(spans.span_of((-3, 1), (-1, 2), 2), (-6, -1))
        self.check(spans.span_of((-1, 2), (1, 2), 64), (-32, 32))
        self.check(spans.span_of((0, 1), (0, 1), 5), (0, 0))

    def test_between_two_steps(self):
        self.check(spans.span_of((1, 3), (2, 3), 1), (0, 1))
        self.check(spans.span_of((-2, 3), (-1, 3), 1), (-1, 0))
        self.check(spans.span_of((-1, 3), (1, 3), 1), (-1, 1))
        self.check(spans.span_of((1, 3), (2, 3), 10), (3, 7))
        self.check(spans.span_of((-2, 3), (-1, 3), 10), (-7, -3))

    def test_one_end_on_the_grid(self):
        self.check(spans.span_of((1, 2), (2, 3), 4), (2, 3))
        self.check(spans.span_of((-2, 3), (-1, 2), 4), (-3, -2))

    def test_the_same_twice(self):
        self.check(spans.span_of((1, 2), (1, 2), 2), (1, 1))
        self.check(spans.span_of((1, 2), (1, 2), 1), (0, 1))
        self.check(spans.span_of((-1, 2), (-1, 2), 1), (-1, 0))
        self.check(spans.span_of((-5, 1), (-5, 1), 1), (-5, -5))

    def test_widest_and_narrowest_grid(self):
        self.check(spans.span_of((1, 3), (1, 3), 1000000), (333333, 333334))
        self.check(spans.span_of((-1, 3), (-1, 3), 1000000), (-333334, -333333))
        self.check(spans.span_of((1, 1000000), (3, 1), 1000000), (1, 3000000))
        self.check(spans.span_of((1, 1000001), (3, 1), 1000000), (0, 3000000))
        self.check(spans.span_of((-7, 2), (7, 2), 1), (-4, 4))

    def test_many(self):
        numbers = sorted({Fraction(top, bottom) for top in range(-7, 8) for bottom in (1, 2, 3, 5)})
        for place, low in enumerate(numbers):
            for high in numbers[place:]:
                for grid in GRIDS:
                    self.check(spans.span_of(pair(low), pair(high), grid), least([low, high], grid))

    def test_hundreds_of_figures(self):
        for grid in GRIDS:
            low = Fraction(-LONG, 3)
            high = Fraction(LONGER, LONG)
            self.check(spans.span_of(pair(low), pair(high), grid), least([low, high], grid))

    def test_refused(self):
        for grid in (1, 64, 1000000):
            refused(self, errors.NoSpan, spans.span_of, (1, 2), (1, 3), grid)
            refused(self, errors.NoSpan, spans.span_of, (-1, 3), (-1, 2), grid)
            refused(self, errors.NoSpan, spans.span_of, (1, 1), (-1, 1), grid)
            refused(self, errors.NoSpan, spans.span_of, (LONG, 1), (1, LONG), grid)
            refused(self, errors.NoSpan, spans.span_of, (LONG + 1, LONGER + 1), (LONG, LONGER), grid)


class Holding(SpanCase):
    def test_ends_and_beyond(self):
        for grid in GRIDS:
            for span in SMALL:
                for part in range(-4 * 4, 4 * 4 + 1):
                    number = Fraction(part, 4 * grid)
                    answer = spans.holds(span, pair(number), grid)
                    self.assertIs(answer, span[0] <= number * grid <= span[1])

    def test_by_a_hair(self):
        self.assertIs(spans.holds((0, 1), (LONG, LONGER), 1), True)
        self.assertIs(spans.holds((0, 1), (LONGER, LONG), 1), False)
        self.assertIs(spans.holds((1, 2), (LONG, LONGER), 1), False)
        self.assertIs(spans.holds((-1, 0), (-LONGER, LONG), 1), False)
        self.assertIs(spans.holds((-1, 0), (-LONG, LONGER), 1), True)

    def test_holds_what_it_was_made_of(self):
        for grid in GRIDS:
            span = spans.span_of((-22, 7), (1, 3), grid)
            self.assertIs(spans.holds(span, (-22, 7), grid), True)
            self.assertIs(spans.holds(span, (1, 3), grid), True)
            self.assertIs(spans.holds(span, (4, 3), grid), False)


class SumsAndProducts(SpanCase):
    def test_sums_plain(self):
        self.check(spans.add_spans((1, 2), (-5, 7)), (-4, 9))
        self.check(spans.add_spans((0, 0), (3, 3)), (3, 3))
        self.check(spans.add_spans((-LONG, LONG), (1, 1)), (1 - LONG, LONGER))

    def test_differences_plain(self):
        self.check(spans.take_spans((1, 2), (-5, 7)), (-6, 7))
        self.check(spans.take_spans((1, 2), (1, 2)), (-1, 1))
        self.check(spans.take_spans((0, 0), (3, 5)), (-5, -3))
        self.check(spans.take_spans((LONG, LONG), (LONG, LONGER)), (-1, 0))

    def test_all_small_sums(self):
        for a in SMALL:
            for b in SMALL:
                sums = [x + y for x in half_steps(a) for y in half_steps(b)]
                takes = [x - y for x in half_steps(a) for y in half_steps(b)]
                self.check(spans.add_spans(a, b), (min(sums) // 2, max(sums) // 2))
                self.check(spans.take_spans(a, b), (min(takes) // 2, max(takes) // 2))

    def test_products_plain(self):
        self.check(spans.mul_spans((2, 3), (4, 5), 1), (8, 15))
        self.check(spans.mul_spans((2, 3), (4, 5), 10), (0, 2))
        self.check(spans.mul_spans((-2, 3), (-5, 4), 1), (-15, 12))
        self.check(spans.mul_spans((-3, -2), (4, 5), 10), (-2, 0))
        self.check(spans.mul_spans((-3, -2), (-5, -4), 10), (0, 2))
        self.check(spans.mul_spans((0, 3), (-7, 4), 10), (-3, 2))
        self.check(spans.mul_spans((0, 0), (-7, 4), 10), (0, 0))
        self.check(spans.mul_spans((5, 5), (7, 7), 5), (7, 7))
        self.check(spans.mul_spans((5, 5), (7, 7), 4), (8, 9))
        self.check(spans.mul_spans((5, 5), (-7, -7), 4), (-9, -8))
        self.check(spans.mul_spans((1, 1), (1, 1), 1000000), (0, 1))
        self.check(spans.mul_spans((-1, -1), (1, 1), 1000000), (-1, 0))

    def test_all_small_products(self):
        for a in SMALL:
            for b in SMALL:
                products = [x * y for x in half_steps(a) for y in half_steps(b)]
                for grid in (1, 2, 3, 1000000):
                    wanted = (min(products) // (4 * grid), up(max(products), 4 * grid))
                    self.check(spans.mul_spans(a, b, grid), wanted)

    def test_products_of_hundreds_of_figures(self):
        self.check(spans.mul_spans((-LONG, LONGER), (LONG, LONGER), 1), (-LONG * LONGER, LONGER * LONGER))
        answer = spans.mul_spans((-LONG, LONGER), (LONG, LONGER), 1000000)
        self.check(answer, (-LONG * LONGER // 1000000, up(LONGER * LONGER, 1000000)))


class Powers(SpanCase):
    def test_nought_within(self):
        self.check(spans.raise_span((-3, 2), 2, 1), (0, 9))
        self.check(spans.raise_span((-2, 3), 2, 1), (0, 9))
        self.check(spans.raise_span((-3, 2), 3, 1), (-27, 8))
        self.check(spans.raise_span((-3, 2), 6, 1), (0, 729))

    def test_nought_as_an_end(self):
        self.check(spans.raise_span((0, 3), 2, 10), (0, 1))
        self.check(spans.raise_span((-3, 0), 2, 10), (0, 1))
        self.check(spans.raise_span((0, 3), 3, 1), (0, 27))
        self.check(spans.raise_span((-3, 0), 3, 1), (-27, 0))

    def test_one_number_alone(self):
        self.check(spans.raise_span((0, 0), 2, 7), (0, 0))
        self.check(spans.raise_span((0, 0), 5, 7), (0, 0))
        self.check(spans.raise_span((10, 10), 4, 10), (10, 10))
        self.check(spans.raise_span((-10, -10), 4, 10), (10, 10))
        self.check(spans.raise_span((-10, -10), 5, 10), (-10, -10))
        self.check(spans.raise_span((7, 7), 2, 10), (4, 5))
        self.check(spans.raise_span((-7, -7), 3, 10), (-4, -3))

    def test_both_ends_below_nought(self):
        self.check(spans.raise_span((-3, -2), 2, 1), (4, 9))
        self.check(spans.raise_span((-3, -2), 3, 1), (-27, -8))
        self.check(spans.raise_span((-3, -2), 4, 2), (2, 11))
        self.check(spans.raise_span((-3, -2), 5, 2), (-16, -2))

    def test_rounded_once(self):
        # 15 of 10 steps to the power of 3 is 33.75 steps; the square rounded first would make 34.5 of it.
        self.check(spans.raise_span((15, 15), 3, 10), (33, 34))
        self.check(spans.raise_span((1, 1), 6, 1000000), (0, 1))
        self.check(spans.raise_span((-1, -1), 5, 1000000), (-1, 0))
        self.check(spans.raise_span((1000000, 2000000), 6, 1000000), (1000000, 64000000))

    def test_all_small_powers(self):
        for low in range(-7, 8):
            for high in range(low, 8):
                for many in range(2, 7):
                    powers = [x ** many for x in half_steps((low, high))]
                    for grid in (1, 2, 3, 5, 1000000):
                        bottom = 2 ** many * grid ** (many - 1)
                        wanted = (min(powers) // bottom, up(max(powers), bottom))
                        self.check(spans.raise_span((low, high), many, grid), wanted)

    def test_hundreds_of_figures(self):
        self.check(spans.raise_span((-LONG, LONGER), 6, 1), (0, LONGER ** 6))
        self.check(spans.raise_span((-LONGER, -LONG), 5, 3), (-LONGER ** 5 // 81, up(-LONG ** 5, 81)))


class Scaling(SpanCase):
    def test_plain(self):
        self.check(spans.scale_span((-2, 3), 4), (-8, 12))
        self.check(spans.scale_span((-2, 3), 1), (-2, 3))
        self.check(spans.scale_span((5, 5), 3), (15, 15))

    def test_nought(self):
        for span in SMALL + [(-LONG, LONGER)]:
            self.check(spans.scale_span(span, 0), (0, 0))

    def test_below_nought(self):
        self.check(spans.scale_span((-2, 3), -1), (-3, 2))
        self.check(spans.scale_span((2, 3), -4), (-12, -8))
        self.check(spans.scale_span((-3, -2), -4), (8, 12))

    def test_all_small_ones(self):
        for span in SMALL:
            for many in range(-4, 5):
                numbers = [x * many for x in half_steps(span)]
                self.check(spans.scale_span(span, many), (min(numbers) // 2, max(numbers) // 2))

    def test_hundreds_of_figures(self):
        self.check(spans.scale_span((-LONG, LONGER), -LONG), (-LONGER * LONG, LONG * LONG))


class TwoSpans(SpanCase):
    def test_common_plain(self):
        self.check(spans.common((0, 5), (3, 9)), (3, 5))
        self.check(spans.common((0, 9), (3, 5)), (3, 5))
        self.check(spans.common((0, 5), (0, 5)), (0, 5))

    def test_common_of_spans_that_touch(self):
        self.check(spans.common((0, 3), (3, 9)), (3, 3))
        self.check(spans.common((3, 9), (-2, 3)), (3, 3))
        self.check(spans.common((4, 4), (4, 4)), (4, 4))

    def test_common_of_spans_apart(self):
        self.assertIsNone(spans.common((0, 3), (4, 9)))
        self.assertIsNone(spans.common((4, 9), (0, 3)))
        self.assertIsNone(spans.common((-1, -1), (1, 1)))

    def test_hull_plain(self):
        self.check(spans.hull((0, 3), (4, 9)), (0, 9))
        self.check(spans.hull((4, 9), (-8, 3)), (-8, 9))
        self.check(spans.hull((0, 9), (3, 5)), (0, 9))
        self.check(spans.hull((2, 2), (2, 2)), (2, 2))

    def test_within(self):
        self.assertIs(spans.inside((1, 2), (0, 3)), True)
        self.assertIs(spans.inside((0, 3), (1, 2)), False)
        self.assertIs(spans.inside((0, 2), (0, 3)), True)
        self.assertIs(spans.inside((1, 4), (0, 3)), False)
        self.assertIs(spans.inside((-1, 2), (0, 3)), False)

    def test_deep_within(self):
        self.assertIs(spans.deep((1, 2), (0, 3)), True)
        self.assertIs(spans.deep((0, 2), (0, 3)), False)
        self.assertIs(spans.deep((1, 3), (0, 3)), False)
        self.assertIs(spans.deep((-1, 2), (0, 3)), False)
        self.assertIs(spans.deep((1, 4), (0, 3)), False)
        self.assertIs(spans.deep((5, 6), (0, 3)), False)

    def test_a_span_and_itself(self):
        for span in SMALL + [(-LONG, LONGER)]:
            self.assertIs(spans.inside(span, span), True)
            self.assertIs(spans.deep(span, span), False)

    def test_all_small_ones(self):
        for a in SMALL:
            for b in SMALL:
                mine = set(half_steps(a))
                other = set(half_steps(b))
                both = mine & other
                if both:
                    self.check(spans.common(a, b), (min(both) // 2, max(both) // 2))
                else:
                    self.assertIsNone(spans.common(a, b))
                self.check(spans.hull(a, b), (min(mine | other) // 2, max(mine | other) // 2))
                self.assertIs(spans.inside(a, b), mine <= other)
                ends = {2 * b[0], 2 * b[1]}
                self.assertIs(spans.deep(a, b), mine <= other and not mine & ends)


class Cutting(SpanCase):
    def test_width(self):
        for span, wanted in (((0, 0), 0), ((-3, -2), 1), ((-1, 1), 2), ((4, 7), 3), ((-LONG, LONGER), LONG + LONGER)):
            answer = spans.width(span)
            self.assertTrue(is_int(answer))
            self.assertEqual(answer, wanted)

    def test_middle(self):
        cases = (
            ((0, 0), 0), ((0, 1), 0), ((0, 2), 1), ((0, 3), 1), ((-1, 0), -1), ((-2, 0), -1), ((-3, 0), -2),
            ((-3, -2), -3), ((-5, -2), -4), ((-6, -2), -4), ((-1, 1), 0), ((-2, 1), -1), ((-1, 2), 0), ((-7, -7), -7),
        )
        for span, wanted in cases:
            with self.subTest(span=span):
                answer = spans.middle(span)
                self.assertTrue(is_int(answer))
                self.assertEqual(answer, wanted)

    def test_middle_of_hundreds_of_figures(self):
        self.assertEqual(spans.middle((LONG, LONGER)), LONG)
        self.assertEqual(spans.middle((-LONGER, -LONG)), -LONGER)

    def test_halves(self):
        cases = (
            ((0, 2), ((0, 1), (1, 2))), ((0, 3), ((0, 1), (1, 3))), ((-3, 0), ((-3, -2), (-2, 0))),
            ((-3, -1), ((-3, -2), (-2, -1))), ((-1, 1), ((-1, 0), (0, 1))), ((-64, 64), ((-64, 0), (0, 64))),
        )
        for span, wanted in cases:
            with self.subTest(span=span):
                answer = spans.halves(span)
                self.assertIs(type(answer), tuple)
                self.assertEqual(len(answer), 2)
                self.check(answer[0], wanted[0])
                self.check(answer[1], wanted[1])

    def test_too_narrow(self):
        for span in ((0, 0), (0, 1), (-1, 0), (-7, -7), (-8, -7), (LONG, LONGER)):
            refused(self, errors.NoCut, spans.halves, span)


class AskedAgain(unittest.TestCase):
    def test_told_again(self):
        def ask():
            return [
                spans.span_of((1, 3), (2, 3), 64), spans.mul_spans((-3, 5), (2, 7), 10),
                spans.raise_span((-3, 5), 4, 10), spans.common((0, 5), (3, 9)), spans.halves((0, 9)),
            ]
        first = ask()
        refused(self, errors.NoSpan, spans.span_of, (1, 1), (0, 1), 64)
        refused(self, errors.NoCut, spans.halves, (0, 1))
        self.assertEqual(ask(), first)


if __name__ == "__main__":
    unittest.main()
