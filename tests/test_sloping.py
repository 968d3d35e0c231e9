"""Points 2 and 23: the slopes of a net over a box."""

import random
import unittest
from fractions import Fraction
from itertools import product

from boxnarrow.sloping import slopes
from tests.chance import FIFTEEN, GRIDS, asked_by_chance, point_by_chance
from tests.helping import check_slopes, told
from tests.otherwise import exact_otherwise, slopes_otherwise

X = ("unknown", 0)
Y = ("unknown", 1)
NONE = (0, 0)


class SlopesCase(unittest.TestCase):
    def check(self, nodes, box, grid, wanted):
        kept = (list(nodes), list(box))
        answer = slopes(nodes, box, grid)
        self.assertEqual(answer, wanted, (nodes, box, grid))
        check_slopes(self, answer, len(nodes), len(box))
        self.assertEqual((nodes, box), kept)

    def check_last(self, nodes, box, grid, wanted):
        """Fails unless the last node has the wanted slopes."""
        self.assertEqual(slopes(nodes, box, grid)[-1], wanted, (nodes, box, grid))
        self.check(nodes, box, grid, slopes_otherwise(nodes, box, grid))


class EachKind(SlopesCase):
    def test_no_nodes(self):
        self.check([], [(1, 2)], 1, [])

    def test_numbers(self):
        for pair in ((0, 1), (5, 1), (-1, 3), (999999999, 999999998)):
            for grid in GRIDS:
                self.check([("number", *pair)], [(-1, 2)], grid, [[NONE]])
                self.check([("number", *pair)], [(-1, 2)] * 4, grid, [[NONE] * 4])

    def test_unknowns(self):
        for grid in GRIDS:
            for many in range(1, 5):
                nodes = [("unknown", k) for k in range(many)]
                wanted = [[(grid, grid) if k == place else NONE for k in range(many)] for place in range(many)]
                self.check(nodes, [(-5, 7)] * many, grid, wanted)
                self.check(nodes[::-1], [(3, 3)] * many, grid, wanted[::-1])

    def test_sums_and_differences(self):
        nodes = [X, Y, ("plus", 0, 1), ("minus", 0, 1), ("plus", 2, 3), ("minus", 1, 3)]
        self.check(nodes, [(-5, 7), (0, 1)], 10, [
            [(10, 10), NONE], [NONE, (10, 10)], [(10, 10), (10, 10)], [(10, 10), (-10, -10)], [(20, 20), NONE],
            [(-10, -10), (20, 20)],
        ])
        # The differences of two slopes that are no single numbers: the ends are turned.
        nodes = [X, ("power", 0, 2), ("power", 0, 3), ("minus", 1, 2), ("plus", 1, 2)]
        self.check(nodes, [(1, 2)], 1, [[(1, 1)], [(2, 4)], [(3, 12)], [(-10, 1)], [(5, 16)]])

    def test_products(self):
        nodes = [X, Y, ("times", 0, 1)]
        self.check(nodes, [(2, 3), (5, 7)], 1, [[(1, 1), NONE], [NONE, (1, 1)], [(5, 7), (2, 3)]])
        self.check(nodes, [(20, 30), (-7, 5)], 10, [[(10, 10), NONE], [NONE, (10, 10)], [(-7, 5), (20, 30)]])
        self.check_last([X, ("number", -3, 2), ("times", 0, 1)], [(20, 30)], 2, [(-3, -3)])
        self.check_last([X, ("number", -3, 2), ("times", 1, 0)], [(20, 30)], 2, [(-3, -3)])
        # The worth of 1/3 goes from 3 to 4 tenths, and so does the slope.
        self.check_last([X, ("number", 1, 3), ("times", 0, 1)], [(20, 30)], 10, [(3, 4)])

    def test_both_parts_of_a_product_hang_on_the_same_unknown(self):
        # x ^ 2 times x ^ 3 over (1, 2): worths (1, 4), (1, 8), slopes (2, 4), (3, 12).
        nodes = [X, ("power", 0, 2), ("power", 0, 3), ("times", 1, 2)]
        self.check_last(nodes, [(1, 2)], 1, [(1 * 3 + 1 * 2, 4 * 12 + 8 * 4)])
        # The worths stand crosswise with the slopes: neither with its own.
        nodes = [X, Y, ("power", 0, 2), ("plus", 0, 1), ("times", 2, 3)]
        self.check_last(nodes, [(1, 2), (10, 20)], 1, [(1 + 11 * 2, 4 + 22 * 4), (1, 4)])

    def test_each_product_is_rounded_for_itself(self):
        # 1 step by 1 step, on the grid 2, is half a step: rounded outward it is (0, 1), twice that (0, 2).
        nodes = [X, ("power", 0, 2), ("number", 1, 2), ("times", 1, 2)]
        self.check(nodes, [(1, 1)], 2, [[(2, 2)], [(2, 2)], [NONE], [(1, 1)]])
        nodes = [X, ("number", 1, 2), ("times", 0, 1), ("times", 2, 2)]
        self.check(nodes, [(1, 1)], 2, [[(2, 2)], [NONE], [(1, 1)], [(0, 2)]])

    def test_the_same_part_twice(self):
        nodes = [X, ("plus", 0, 0), ("minus", 0, 0), ("times", 0, 0), ("minus", 3, 3)]
        self.check(nodes, [(-2, 5)], 1, [[(1, 1)], [(2, 2)], [NONE], [(-4, 10)], [(-14, 14)]])

    def test_powers(self):
        for many, wanted in ((2, (4, 6)), (3, (12, 27)), (4, (32, 108)), (5, (80, 405)), (6, (192, 1458))):
            self.check([X, ("power", 0, many)], [(2, 3)], 1, [[(1, 1)], [wanted]])
        for many, wanted in ((2, (-6, -4)), (3, (12, 27)), (4, (-108, -32)), (5, (80, 405)), (6, (-1458, -192))):
            self.check([X, ("power", 0, many)], [(-3, -2)], 1, [[(1, 1)], [wanted]])
        for many, wanted in ((2, (-4, 6)), (3, (0, 27)), (4, (-32, 108)), (5, (0, 405)), (6, (-192, 1458))):
            self.check([X, ("power", 0, many)], [(-2, 3)], 1, [[(1, 1)], [wanted]])

    def test_spans_with_nought_at_an_end(self):
        for many in range(2, 7):
            self.check([X, ("power", 0, many)], [(0, 3)], 1, [[(1, 1)], [(0, many * 3 ** (many - 1))]])
            low, high = sorted((0, many * (-3) ** (many - 1)))
            self.check([X, ("power", 0, many)], [(-3, 0)], 1, [[(1, 1)], [(low, high)]])
            self.check([X, ("power", 0, many)], [(0, 0)], 1, [[(1, 1)], [NONE]])

    def test_a_power_is_rounded_first_and_then_taken_so_many_times(self):
        # A square of 1 of 4 steps is a quarter of a step, (0, 1); three times that is (0, 3).
        self.check([X, ("power", 0, 3)], [(1, 1)], 4, [[(4, 4)], [(0, 3)]])
        # For a square nothing is rounded.
        self.check([X, ("power", 0, 2)], [(1, 1)], 4, [[(4, 4)], [(2, 2)]])
        self.check([X, ("power", 0, 2)], [(-1, 3)], 1000000, [[(1000000, 1000000)], [(-2, 6)]])
        # The powers of (-1, 1) are one span, of which the product with a slope is made at last.
        nodes = [X, Y, ("minus", 0, 1), ("power", 2, 4)]
        self.check_last(nodes, [(0, 1), (0, 1)], 1, [(-4, 4), (-4, 4)])
        self.check_last(nodes, [(0, 2), (0, 1)], 1, [(-4, 32), (-32, 4)])

    def test_powers_of_other_nodes(self):
        nodes, rows = told("( x ^ 2 + y ) ^ 3 = 0")
        # The part's worth over the box is (3, 6), its square (9, 36), three times that (27, 108).
        at = nodes.index(("power", 3, 3))
        self.assertEqual(slopes(nodes, [(1, 2), (2, 2)], 1)[at], [(27 * 2, 108 * 4), (27, 108)])
        nodes = [X, ("power", 0, 2), ("power", 1, 2), ("power", 2, 2)]
        self.check(nodes, [(1, 2)], 1, [[(1, 1)], [(2, 4)], [(2 * 1 * 2, 2 * 4 * 4)], [(2 * 1 * 4, 2 * 16 * 32)]])

    def test_one_to_four_unknowns(self):
        for many in range(1, 5):
            nodes = [("unknown", k) for k in range(many)]
            for k in range(1, many):
                nodes.append(("times", k, 0 if k == 1 else len(nodes) - 1))
            box = [(2, 3), (5, 7), (11, 13), (17, 19)][:many]
            lows = [[span[0] for span in box[:k] + box[k + 1:]] for k in range(many)]
            highs = [[span[1] for span in box[:k] + box[k + 1:]] for k in range(many)]
            products = [[1, 1] for k in range(many)]
            for k in range(many):
                for low, high in zip(lows[k], highs[k]):
                    products[k] = [products[k][0] * low, products[k][1] * high]
            self.check_last(nodes, box, 1, [tuple(pair) for pair in products])

    def test_unknowns_without_a_node(self):
        nodes = [("unknown", 2), ("power", 0, 2), ("number", 5, 1), ("plus", 1, 2)]
        box = [(1, 2), (3, 4), (5, 6), (7, 8)]
        ten = [NONE, NONE, (10, 12), NONE]
        self.check(nodes, box, 1, [[NONE, NONE, (1, 1), NONE], ten, [NONE] * 4, ten])


class Otherwise(SlopesCase):
    def test_all_small_spans(self):
        nodes = [
            X, Y, ("number", -3, 2), ("plus", 0, 1), ("minus", 3, 2), ("times", 0, 1), ("times", 3, 4), ("power", 0, 2),
            ("power", 3, 3), ("power", 4, 4), ("power", 1, 5), ("power", 0, 6), ("minus", 9, 8),
        ]
        spans = [(low, high) for low in range(-2, 3) for high in range(low, 3)]
        for box in product(spans, repeat=2):
            for grid in (1, 2, 3):
                self.check(nodes, list(box), grid, slopes_otherwise(nodes, list(box), grid))

    def test_by_chance(self):
        chance = random.Random(23)
        for number in range(200):
            nodes, box, grid = asked_by_chance(chance)
            self.check(nodes, box, grid, slopes_otherwise(nodes, box, grid))

    def test_sixty_nodes(self):
        nodes = [("unknown", k) for k in range(4)] + [("number", k, 7) for k in range(1, 7)]
        while len(nodes) < 60:
            at = len(nodes)
            nodes.append((("plus", "minus", "times")[at % 3], at % 10, (at * 7 + at // 10) % 10))
        self.assertEqual(len(set(nodes)), 60)
        box = [(-FIFTEEN, FIFTEEN), (0, 1), (5, FIFTEEN), (-7, -7)]
        for grid in GRIDS:
            self.check(nodes, box, grid, slopes_otherwise(nodes, box, grid))


class Differences(SlopesCase):
    """The difference of a node's exact worths at two points lies in what the slopes make of it."""

    def check_points(self, nodes, box, grid, one, other):
        ways = [Fraction(*a) - Fraction(*b) for a, b in zip(one, other, strict=True)]
        for at, slope in enumerate(slopes(nodes, box, grid)):
            ends = [sorted(Fraction(end, grid) * way for end in span) for span, way in zip(slope, ways, strict=True)]
            worth = exact_otherwise(nodes, at, one) - exact_otherwise(nodes, at, other)
            self.assertLessEqual(sum(low for low, high in ends), worth, (nodes, box, grid, one, other))
            self.assertLessEqual(worth, sum(high for low, high in ends), (nodes, box, grid, one, other))

    def test_by_chance(self):
        chance = random.Random(231)
        for number in range(250):
            nodes, box, grid = asked_by_chance(chance)
            for time in range(3):
                self.check_points(nodes, box, grid, point_by_chance(chance, box, grid), point_by_chance(chance, box, grid))

    def test_corners(self):
        nodes = told("x ^ 5 - y ^ 4 + x ^ 2 * y = ( x - y ) ^ 2")[0]
        for box in ([(-3, 5), (-7, 2)], [(0, 2), (-2, 0)], [(1, 2), (3, 3)], [(-4, -1), (2, 9)]):
            for grid in (1, 2, 1000):
                corners = [[Fraction(end, grid).as_integer_ratio() for end in corner] for corner in product(*box)]
                for one, other in product(corners, repeat=2):
                    self.check_points(nodes, box, grid, one, other)


class AskersOwn(SlopesCase):
    NODES = [X, Y, ("number", 1, 2), ("times", 0, 1), ("power", 0, 3), ("minus", 3, 4)]
    BOX = [(-1, 2), (3, 4)]

    def test_told_again(self):
        wanted = slopes_otherwise(self.NODES, self.BOX, 2)
        for spoil in (lambda told: told.clear(), lambda told: [row.clear() for row in told], lambda told: told[0].reverse()):
            nodes, box = list(self.NODES), list(self.BOX)
            spoil(slopes(nodes, box, 2))
            self.assertEqual(slopes(nodes, box, 2), wanted)
            self.assertEqual((nodes, box), (self.NODES, self.BOX))

    def test_each_list_is_one_of_its_own(self):
        # Nodes with the same slopes, and two numbers, have lists of their own all the same.
        answer = slopes([("number", 1, 2), ("number", 1, 3), X, ("plus", 2, 0), ("plus", 2, 1)], [(0, 1), (0, 1)], 1)
        for at in range(5):
            answer[at].append(at)
        self.assertEqual([row[-1] for row in answer], list(range(5)))
        self.assertEqual([len(row) for row in answer], [3] * 5)

    def test_lists_changed_later(self):
        nodes, box = list(self.NODES), list(self.BOX)
        answer = slopes(nodes, box, 2)
        nodes.clear()
        box.clear()
        self.assertEqual(answer, slopes_otherwise(self.NODES, self.BOX, 2))


if __name__ == "__main__":
    unittest.main()
