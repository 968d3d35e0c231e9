"""Points 2, 3, 19, 21 and 22: the shaves of a box by a row."""

import random
import unittest
from itertools import product

from boxnarrow.narrow import narrowed
from boxnarrow.shaving import shaves
from boxnarrow.worths import bars, worths
from tests.answers import AnswersStay
from tests.chance import FIFTEEN, GRIDS, box_by_chance, net_by_chance
from tests.helping import check_spans, is_int, told
from tests.otherwise import shaves_otherwise

X = ("unknown", 0)
Y = ("unknown", 1)
WORDS = ("zero", "least")
# Rows with unknowns that stand in them once and several times.
LINES = (
    "x = 2", "x ^ 2 = 9", "x ^ 3 + x = 8", "4 >= x ^ 2", "x * y = 6", "x * y + x = 4", "4 >= x ^ 2 + y ^ 2",
    "x * x + y * x + y = 9", "x ^ 2 + 1 >= y * x ^ 3", "x ^ 2 + y ^ 2 + z ^ 2 = 9", "x * y * z = 6",
    "x + y + z + u = 4", "x - y * z + x * u = 2", "x ^ 2 + y ^ 2 + z ^ 2 + u ^ 2 = 4",
)


class ShavesCase(unittest.TestCase):
    def check_kinds(self, answer, many):
        self.assertIs(type(answer), tuple)
        cuts, left = answer
        self.assertIs(type(cuts), list)
        for cut in cuts:
            self.assertIs(type(cut), tuple)
            self.assertEqual([is_int(part) for part in cut], [True] * 3)
        if left is not None:
            check_spans(self, left, many)

    def check_cuts(self, nodes, row, box, grid, answer):
        """Fails unless each cut throws away a part that the row bars by its worth alone, and all others are left."""
        cuts, left = answer
        kept = list(box)
        for k, place, side in cuts:
            low, high = kept[k]
            self.assertTrue(low < place < high)
            parts = [(low, place), (place, high)]
            thrown = kept[:k] + [parts[side]] + kept[k + 1:]
            self.assertTrue(bars(row[0], worths(nodes, thrown, grid)[row[1]]))
            kept[k] = parts[1 - side]
        self.assertEqual(left, kept)

    def check(self, nodes, row, box, grid, wanted):
        kept = (list(nodes), list(box))
        answer = shaves(nodes, row, box, grid)
        self.assertEqual(answer, wanted, (nodes, row, box, grid))
        self.check_kinds(answer, len(box))
        self.assertIsNot(answer[1], box)
        if answer[1] is not None:
            self.check_cuts(nodes, row, box, grid, answer)
        self.assertEqual((nodes, box), kept)

    def check_line(self, line, box, cuts, left, grid=1):
        nodes, rows = told(line)
        with self.subTest(line=line, box=box, grid=grid):
            self.check(nodes, rows[0], box, grid, (cuts, left))


class NoCuts(ShavesCase):
    def test_the_worth_over_the_box_bars_the_row(self):
        self.check_line("x + y = 4", [(0, 1), (0, 2)], [], None)
        self.check_line("x + y = 4", [(5, 9), (0, 2)], [], None)
        self.check_line("x >= y", [(0, 2), (3, 9)], [], None)
        self.check_line("x ^ 2 + 1 = 0", [(-9, 9)], [], None)
        self.check_line("0 >= x ^ 2 + 1", [(-9, 9)], [], None)
        self.check_line("x = 5", [(6, 6)], [], None)
        self.check_line("x = 5", [(4, 4)], [], None)

    def test_just_not_barred(self):
        self.check_line("x = 5", [(5, 5)], [], [(5, 5)])
        self.check_line("x = y", [(0, 3), (3, 4)], [(0, 2, 0)], [(2, 3), (3, 4)])
        self.check_line("x >= y", [(0, 3), (3, 9)], [(0, 2, 0), (1, 4, 1)], [(2, 3), (3, 4)])

    def test_a_narrowed_box_that_is_none_while_the_worth_does_not_bar(self):
        nodes = [X, ("minus", 0, 0), ("number", 7, 1), ("minus", 1, 2)]
        for box in ([(0, 10)], [(-7, 0)], [(0, 10), (1, 5)]):
            self.assertIsNone(narrowed(nodes, ("zero", 3), box, 1))
            self.check(nodes, ("zero", 3), box, 1, ([], list(box)))
        self.check_line("x ^ 2 = 1/4", [(1, 1)], [], [(1, 1)], grid=4)
        self.check_line("x * y = 1/4", [(1, 1), (1, 3)], [], [(1, 1), (1, 3)], grid=4)

    def test_a_narrowed_box_that_is_the_box(self):
        self.check_line("x = x", [(-5, 7)], [], [(-5, 7)])
        self.check_line("x + y >= 0", [(0, 7), (0, 2)], [], [(0, 7), (0, 2)])
        self.check_line("x * y = 0", [(-1, 7), (-2, 2)], [], [(-1, 7), (-2, 2)])

    def test_a_place_that_is_just_at_an_end(self):
        self.check_line("x = 5", [(4, 6)], [], [(4, 6)])
        self.check_line("x = 5", [(5, 6)], [], [(5, 6)])
        self.check_line("x = 5", [(4, 5)], [], [(4, 5)])
        self.check_line("x + y = 4", [(0, 5), (0, 5)], [], [(0, 5), (0, 5)])
        self.check_line("x >= 5", [(4, 6)], [], [(4, 6)])

    def test_a_part_that_the_worth_alone_does_not_bar(self):
        # x is to be 2 steps; but the square of 1 step, rounded outward, is as good as that of 2.
        self.check_line("x ^ 2 = 1/4", [(0, 3)], [], [(0, 3)], grid=4)
        self.check_line("x ^ 2 = 1/4", [(0, 4)], [(0, 3, 1)], [(0, 3)], grid=4)
        nodes, rows = told("x ^ 2 = 1/4")
        self.assertEqual(narrowed(nodes, rows[0], [(0, 3)], 4), [(2, 2)])
        # The differences of x with itself hold more than 0, so that no cut is sure.
        self.check_line("x - x = y", [(0, 9), (1, 20)], [(1, 10, 1)], [(0, 9), (1, 10)])
        self.check_line("x * x = 9", [(-9, 9)], [], [(-9, 9)])


class Cuts(ShavesCase):
    def test_below_alone(self):
        self.check_line("x = 5", [(3, 6)], [(0, 4, 0)], [(4, 6)])
        self.check_line("x = 5", [(-90, 5)], [(0, 4, 0)], [(4, 5)])
        self.check_line("x >= 5", [(-90, 90)], [(0, 4, 0)], [(4, 90)])
        self.check_line("x + y = 9", [(0, 5), (0, 6)], [(0, 2, 0), (1, 3, 0)], [(2, 5), (3, 6)])

    def test_above_alone(self):
        self.check_line("x = 5", [(4, 7)], [(0, 6, 1)], [(4, 6)])
        self.check_line("x = 5", [(5, 90)], [(0, 6, 1)], [(5, 6)])
        self.check_line("5 >= x", [(-90, 90)], [(0, 6, 1)], [(-90, 6)])
        self.check_line("x + y = 4", [(0, 9), (0, 9)], [(0, 5, 1), (1, 5, 1)], [(0, 5), (0, 5)])

    def test_below_and_above(self):
        self.check_line("x = 5", [(3, 7)], [(0, 4, 0), (0, 6, 1)], [(4, 6)])
        self.check_line("x ^ 2 = 2", [(-30, 30)], [(0, -16, 0), (0, 16, 1)], [(-16, 16)], grid=10)
        self.check_line("9 >= x ^ 2", [(-20, 20)], [(0, -4, 0), (0, 4, 1)], [(-4, 4)])

    def test_one_to_four_unknowns(self):
        for many in range(1, 5):
            line = " + ".join(f"{name} ^ 2" for name in "xyzu"[:many]) + " = 4"
            cuts = [cut for k in range(many) for cut in ((k, -3, 0), (k, 3, 1))]
            self.check_line(line, [(-9, 9)] * many, cuts, [(-3, 3)] * many)
            self.check_line(line, [(-2, 2)] * many, [], [(-2, 2)] * many)
            self.check_line(line, [(-4, 2)] * many, cuts[::2], [(-3, 2)] * many)
            self.check_line(line, [(-3, 4)] * many, cuts[1::2], [(-3, 3)] * many)

    def test_a_later_cut_with_the_box_that_an_earlier_one_left(self):
        # With all of x, from 0 to 12, the part of y from -7 to -3 would not be barred.
        self.check_line("x * y + x = 4", [(0, 12), (-7, -1)], [(0, 3, 0), (0, 9, 1), (1, -3, 0)], [(3, 9), (-3, -1)])
        self.check_line("x * y + x = 4", [(1, 10), (-9, 0)], [(0, 7, 0), (1, -2, 0)], [(7, 10), (-2, 0)], grid=2)
        self.check_line("x * y + x = 4", [(-6, 2), (-4, 4)], [(0, -5, 0), (0, -2, 1), (1, -2, 1)], [(-5, -2), (-4, -2)], grid=2)

    def test_zero_and_least(self):
        nodes, rows = told("x = 5")
        self.assertEqual(rows, [("zero", 2)])
        self.check(nodes, ("zero", 2), [(0, 10)], 1, ([(0, 4, 0), (0, 6, 1)], [(4, 6)]))
        self.check(nodes, ("least", 2), [(0, 10)], 1, ([(0, 4, 0)], [(4, 10)]))
        self.check(nodes, ("least", 2), [(5, 10)], 1, ([], [(5, 10)]))
        self.check(nodes, ("zero", 2), [(6, 10)], 1, ([], None))
        self.check(nodes, ("least", 2), [(6, 10)], 1, ([], [(6, 10)]))

    def test_grids(self):
        for grid in GRIDS:
            at = 5 * grid
            self.check_line("x = 5", [(0, 9 * grid)], [(0, at - 1, 0), (0, at + 1, 1)], [(at - 1, at + 1)], grid=grid)
        self.check_line("x = 1/3", [(0, 10)], [(0, 2, 0), (0, 5, 1)], [(2, 5)], grid=10)
        self.check_line("x = 1/3", [(0, 100)], [(0, 32, 0), (0, 35, 1)], [(32, 35)], grid=100)

    def test_fifteen_figures(self):
        box = [(-FIFTEEN, FIFTEEN), (FIFTEEN - 9, FIFTEEN)]
        cuts = [(0, FIFTEEN - 10, 0)]
        self.check_line("x = y", box, cuts, [(FIFTEEN - 10, FIFTEEN), box[1]])


class RowsOfOneNode(ShavesCase):
    def test_a_number(self):
        for word, pair, grid, left in (
            ("zero", (0, 1), 1, True), ("zero", (1, 1), 1, False), ("zero", (-1, 1), 1, False), ("least", (0, 1), 1, True),
            ("least", (1, 1), 1, True), ("least", (-1, 1), 1, False), ("zero", (1, 3), 1, True), ("zero", (1, 3), 3, False),
            ("least", (-1, 3), 1, True), ("least", (-1, 3), 3, False),
        ):
            for box in ([(3, 5)], [(-1, 1), (0, 0)], [(1, 2), (3, 4), (5, 6), (7, 8)]):
                self.check([("number", *pair)], (word, 0), box, grid, ([], list(box) if left else None))

    def test_an_unknown(self):
        for span, zero, least in (
            ((-5, 5), ([-1, 1], (-1, 1)), ([-1], (-1, 5))), ((0, 5), ([1], (0, 1)), ([], (0, 5))), ((0, 0), ([], (0, 0)), ([], (0, 0))),
            ((-5, 0), ([-1], (-1, 0)), ([-1], (-1, 0))), ((-1, 1), ([], (-1, 1)), ([], (-1, 1))), ((1, 5), ([], None), ([], (1, 5))),
            ((-5, -1), ([], None), ([], None)), ((-2, 2), ([-1, 1], (-1, 1)), ([-1], (-1, 2))),
        ):
            for word, (places, left) in (("zero", zero), ("least", least)):
                cuts = [(0, place, int(place > 0)) for place in places]
                self.check([X], (word, 0), [span], 7, (cuts, None if left is None else [left]))
                cuts = [(1, place, int(place > 0)) for place in places]
                for nodes in ([Y], [X, Y], [("unknown", 2), X, Y, ("number", 1, 3)]):
                    row = (word, nodes.index(Y))
                    self.check(nodes, row, [(8, 9), span, (3, 4)], 7, (cuts, None if left is None else [(8, 9), left, (3, 4)]))


class OtherNodes(ShavesCase):
    def test_nodes_ahead_and_behind(self):
        nodes, rows = told("let a = x ^ 2 + y * 5", "let b = a - x * 7", "x = 3", "x = 5", "y = x * x")
        self.check(nodes, rows[0], [(0, 9), (0, 99)], 1, ([(0, 2, 0), (0, 4, 1)], [(2, 4), (0, 99)]))
        self.check(nodes, rows[1], [(0, 9), (0, 99)], 1, ([(0, 4, 0), (0, 6, 1)], [(4, 6), (0, 99)]))
        self.check(nodes, rows[2], [(0, 9), (0, 99)], 1, ([(1, 82, 1)], [(0, 9), (0, 82)]))

    def test_unknowns_without_a_node(self):
        nodes = [("unknown", 2), ("number", 4, 1), ("minus", 0, 1)]
        box = [(-7, 8), (0, 9), (0, 9), (0, 1)]
        self.check(nodes, ("zero", 2), box, 1, ([(2, 3, 0), (2, 5, 1)], [(-7, 8), (0, 9), (3, 5), (0, 1)]))

    def test_unknowns_in_another_order(self):
        nodes = [("unknown", 2), ("unknown", 0), ("minus", 0, 1)]
        self.check(nodes, ("zero", 2), [(0, 5), (70, 80), (3, 9)], 1, ([(0, 2, 0), (2, 6, 1)], [(2, 5), (70, 80), (3, 6)]))


class Otherwise(ShavesCase):
    def test_by_chance(self):
        chance = random.Random(22)
        counts = {}
        for number in range(500):
            many = chance.randint(1, 4)
            nodes = net_by_chance(chance, many, most=10, weight=8)
            box = box_by_chance(chance, many, 6)
            grid = chance.choice((1, 2, 3, 7))
            for row in product(WORDS, range(len(nodes))):
                wanted = shaves_otherwise(nodes, row, box, grid)
                self.check(nodes, row, box, grid, wanted)
                word = "none" if wanted[1] is None else len(wanted[0])
                counts[word] = counts.get(word, 0) + 1
        self.assertGreater(min(counts[word] for word in ("none", 0, 1, 2)), 80, counts)

    def test_lines_by_chance(self):
        chance = random.Random(221)
        counts = {}
        for number in range(1200):
            nodes, rows = told(chance.choice(LINES))
            box = box_by_chance(chance, sum(node[0] == "unknown" for node in nodes), 12)
            grid = chance.choice((1, 2, 3))
            wanted = shaves_otherwise(nodes, rows[0], box, grid)
            self.check(nodes, rows[0], box, grid, wanted)
            counts[len(wanted[0])] = counts.get(len(wanted[0]), 0) + 1
        self.assertGreater(min(counts[many] for many in range(5)), 5, counts)


class Answers(AnswersStay, ShavesCase):
    def left(self, nodes, row, box, grid):
        return shaves(nodes, row, box, grid)[1]


class AskersOwn(ShavesCase):
    def test_told_again(self):
        nodes, rows = told("x + y = 4")
        box = [(0, 9), (3, 9)]
        wanted = shaves_otherwise(nodes, rows[0], box, 1)
        cuts, left = shaves(nodes, rows[0], box, 1)
        cuts.clear()
        left.clear()
        self.assertEqual(shaves(nodes, rows[0], box, 1), wanted)
        self.assertEqual(box, [(0, 9), (3, 9)])

    def test_a_box_that_stays_is_told_as_a_new_list(self):
        for nodes, row in (
            ([("number", 0, 1)], ("zero", 0)), ([X, ("minus", 0, 0)], ("zero", 1)),
            ([X, ("minus", 0, 0), ("number", 7, 1), ("minus", 1, 2)], ("zero", 3)),
        ):
            box = [(0, 9), (3, 9)]
            cuts, left = shaves(nodes, row, box, 1)
            self.assertEqual((cuts, left), ([], box))
            cuts.append((0, 5, 0))
            left.clear()
            self.assertEqual(box, [(0, 9), (3, 9)])
            self.assertEqual(shaves(nodes, row, box, 1), ([], box))
        barred = ([X], ("zero", 0), [(1, 2)], 1)
        shaves(*barred)[0].append((0, 5, 0))
        self.assertEqual(shaves(*barred), ([], None))

    def test_lists_changed_later(self):
        nodes, rows = told("x + y = 4")
        box = [(0, 9), (3, 9)]
        wanted = shaves_otherwise(nodes, rows[0], box, 1)
        answer = shaves(nodes, rows[0], box, 1)
        nodes.clear()
        box.clear()
        self.assertEqual(answer, wanted)


if __name__ == "__main__":
    unittest.main()
