"""Points 2, 20 and 21: a box narrowed by a row."""

import random
import unittest

from boxnarrow.narrow import narrowed
from boxnarrow.spans import inside
from tests.answers import AnswersStay
from tests.chance import FIFTEEN, GRIDS, box_by_chance, net_by_chance
from tests.helping import check_spans, told
from tests.otherwise import narrowed_otherwise

X = ("unknown", 0)
Y = ("unknown", 1)
WORDS = ("zero", "least")


class NarrowCase(unittest.TestCase):
    def check(self, nodes, row, box, grid, wanted):
        kept = (list(nodes), list(box))
        answer = narrowed(nodes, row, box, grid)
        self.assertEqual(answer, wanted, (nodes, row, box, grid))
        if answer is not None:
            check_spans(self, answer, len(box))
            self.assertEqual([inside(new, old) for new, old in zip(answer, box)], [True] * len(box))
            self.assertIsNot(answer, box)
        self.assertEqual((nodes, box), kept)

    def check_line(self, line, box, wanted, grid=1):
        nodes, rows = told(line)
        with self.subTest(line=line, box=box, grid=grid):
            self.check(nodes, rows[0], box, grid, wanted)


class Plain(NarrowCase):
    def test_sums_and_differences(self):
        self.check_line("x + y = 4", [(0, 9), (0, 9)], [(0, 4), (0, 4)])
        self.check_line("x + y = 4", [(0, 9), (3, 9)], [(0, 1), (3, 4)])
        self.check_line("x - y = 4", [(0, 9), (3, 9)], [(7, 9), (3, 5)])
        self.check_line("x = y", [(0, 5), (3, 9)], [(3, 5), (3, 5)])
        self.check_line("x >= y", [(0, 5), (3, 9)], [(3, 5), (3, 5)])
        self.check_line("x >= y", [(4, 9), (3, 5)], [(4, 9), (3, 5)])
        self.check_line("x >= y + 2", [(0, 9), (3, 19)], [(5, 9), (3, 7)])
        self.check_line("2 >= x + y", [(0, 9), (1, 9)], [(0, 1), (1, 2)])

    def test_products(self):
        self.check_line("x * y = 12", [(1, 9), (2, 3)], [(4, 6), (2, 3)])
        self.check_line("x * y = 12", [(-9, 9), (2, 3)], [(4, 6), (2, 3)])
        self.check_line("x * y >= 12", [(0, 9), (-3, 3)], [(4, 9), (1, 3)])
        self.check_line("x * y = 7", [(0, 9), (3, 3)], [(2, 3), (3, 3)])
        self.check_line("x * y = 7/2", [(0, 90), (0, 30)], [(11, 90), (3, 30)], grid=10)

    def test_powers(self):
        self.check_line("x ^ 2 = 2", [(0, 2)], [(1, 2)])
        self.check_line("x ^ 2 = 2", [(-20, 20)], [(-15, 15)], grid=10)
        self.check_line("x ^ 2 = 2", [(0, 20)], [(14, 15)], grid=10)
        self.check_line("x ^ 2 >= 9", [(-2, 5)], [(3, 5)])
        self.check_line("9 >= x ^ 2", [(-2, 5)], [(-2, 3)])
        self.check_line("x ^ 3 = -8", [(-9, 9)], [(-2, -2)])
        for many in range(2, 7):
            self.check_line(f"x ^ {many} = {3 ** many}", [(0, 9)], [(3, 3)])
            self.check_line(f"x ^ {many} = {3 ** many - 1}", [(0, 9)], [(2, 3)])

    def test_a_circle(self):
        self.check_line("x ^ 2 + y ^ 2 = 4", [(-192, 192), (-192, 192)], [(-128, 128), (-128, 128)], grid=64)
        self.check_line("x ^ 2 + y ^ 2 = 4", [(0, 192), (120, 192)], [(0, 45), (120, 128)], grid=64)

    def test_one_step_after_the_other(self):
        # x is narrowed as a part of the sum first, to (0, 6), then by its square with the span that it has by then.
        self.check_line("x ^ 2 + x = 6", [(0, 9)], [(0, 3)])
        self.check_line("x + x ^ 2 = 6", [(0, 9)], [(0, 3)])
        self.check_line("x = x * y", [(2, 6), (1, 9)], [(2, 6), (1, 3)])
        self.check_line("x + ( x + y ) = 0", [(-5, 1), (2, 9)], [(-5, 1), (2, 9)])
        self.check_line("x - ( y - x ) = 7", [(0, 2), (-9, 9)], [(0, 2), (-7, -3)])

    def test_one_to_four_unknowns(self):
        self.check_line("x = 3", [(0, 9)], [(3, 3)])
        self.check_line("x + y + z = 3", [(1, 9), (0, 9), (1, 9)], [(1, 2), (0, 1), (1, 2)])
        self.check_line("x + y + z + u = 3", [(1, 9), (0, 9), (1, 9), (1, 9)], [(1, 1), (0, 0), (1, 1), (1, 1)])
        self.check_line("x * u >= y + z", [(0, 3), (4, 9), (5, 9), (-9, 3)], [(3, 3), (4, 4), (5, 5), (3, 3)])

    def test_none(self):
        self.check_line("x + y = 4", [(0, 1), (0, 2)], None)
        self.check_line("x + y = 4", [(5, 9), (0, 2)], None)
        self.check_line("x >= y", [(0, 2), (3, 9)], None)
        self.check_line("x ^ 2 + 1 = 0", [(-9, 9)], None)
        self.check_line("x * y = 7", [(0, 2), (3, 3)], None)

    def test_none_behind_the_row_s_node(self):
        # The row's worth holds 0 in each of these; a part on the way back has nothing left.
        nodes = [X, ("minus", 0, 0), ("number", 7, 1), ("minus", 1, 2)]
        self.check(nodes, ("zero", 3), [(0, 10)], 1, None)
        # A square of a quarter of a step, rounded outward, holds the whole step that the row asks for.
        self.check_line("x ^ 2 = 1/4", [(1, 1)], None, grid=4)
        self.check_line("x ^ 2 = 1/4", [(1, 2)], [(2, 2)], grid=4)
        self.check_line("x * y = 1/4", [(1, 1), (1, 3)], None, grid=4)
        self.check_line("x * y = 1/4", [(1, 1), (1, 4)], [(1, 1), (4, 4)], grid=4)

    def test_what_rounding_leaves(self):
        # 1/2 lies on no step, so a square of 0 could be it for all that the spans tell.
        nodes = [X, ("power", 0, 2), ("number", 1, 2), ("minus", 1, 2)]
        self.check(nodes, ("zero", 3), [(0, 0)], 1, [(0, 0)])
        self.check(nodes, ("zero", 3), [(0, 0)], 2, None)

    def test_a_box_that_stays_as_it_is(self):
        self.check_line("x = x", [(-5, 7)], [(-5, 7)])
        self.check_line("x + y >= 0", [(0, 7), (0, 2)], [(0, 7), (0, 2)])
        self.check_line("x * y = 0", [(-1, 7), (-2, 2)], [(-1, 7), (-2, 2)])
        self.check_line("x - y = 0", [(4, 4), (4, 4)], [(4, 4), (4, 4)])

    def test_just_at_an_end(self):
        self.check_line("x = y", [(0, 3), (3, 9)], [(3, 3), (3, 3)])
        self.check_line("x = y", [(0, 3), (4, 9)], None)
        self.check_line("x >= y", [(0, 3), (3, 9)], [(3, 3), (3, 3)])
        self.check_line("x >= y", [(0, 3), (4, 9)], None)
        self.check_line("x >= y", [(3, 9), (0, 3)], [(3, 9), (0, 3)])


class RowsOfOneNode(NarrowCase):
    def test_a_number(self):
        for word, pair, grid, left in (
            ("zero", (0, 1), 1, True), ("zero", (1, 1), 1, False), ("zero", (-1, 1), 1, False), ("least", (0, 1), 1, True),
            ("least", (1, 1), 1, True), ("least", (-1, 1), 1, False), ("zero", (1, 3), 1, True), ("zero", (1, 3), 3, False),
            ("zero", (-1, 3), 1, True), ("least", (-1, 3), 1, True), ("least", (-1, 3), 3, False), ("least", (-1, 3), 4, False),
        ):
            for box in ([(3, 5)], [(-1, 1), (0, 0)], [(1, 2), (3, 4), (5, 6), (7, 8)]):
                self.check([("number", *pair)], (word, 0), box, grid, list(box) if left else None)

    def test_an_unknown(self):
        for span, zero, least in (
            ((-5, 5), (0, 0), (0, 5)), ((0, 5), (0, 0), (0, 5)), ((-5, 0), (0, 0), (0, 0)), ((0, 0), (0, 0), (0, 0)),
            ((1, 5), None, (1, 5)), ((-5, -1), None, None), ((1, 1), None, (1, 1)), ((-1, -1), None, None),
        ):
            for word, wanted in (("zero", zero), ("least", least)):
                self.check([X], (word, 0), [span], 7, None if wanted is None else [wanted])
                box = [(8, 9), span, (3, 4)]
                self.check([Y], (word, 0), box, 7, None if wanted is None else [(8, 9), wanted, (3, 4)])
                self.check([X, Y], (word, 1), box, 7, None if wanted is None else [(8, 9), wanted, (3, 4)])


class OtherNodes(NarrowCase):
    def test_nodes_ahead_that_are_no_part(self):
        nodes, rows = told("let a = x ^ 2 + y * 5", "let b = a - x * 7", "x + y = 4")
        self.check(nodes, rows[0], [(0, 9), (3, 9)], 1, [(0, 1), (3, 4)])
        nodes, rows = told("let a = ( x - x ) * y", "let b = a ^ 3", "x = y")
        self.check(nodes, rows[0], [(-5, 5), (3, 9)], 1, [(3, 5), (3, 5)])

    def test_nodes_behind_the_row_s(self):
        nodes, rows = told("x = 3", "x = 5", "y = x * x")
        self.check(nodes, rows[0], [(0, 9), (0, 99)], 1, [(3, 3), (0, 99)])
        self.check(nodes, rows[1], [(0, 9), (0, 99)], 1, [(5, 5), (0, 99)])
        self.check(nodes, rows[2], [(0, 9), (0, 99)], 1, [(0, 9), (0, 81)])

    def test_unknowns_without_a_node_from_nought_to_the_row_s(self):
        nodes = [Y, ("number", 4, 1), ("minus", 0, 1), X, ("unknown", 2)]
        self.check(nodes, ("zero", 2), [(-7, 8), (0, 9), (5, 5)], 1, [(-7, 8), (4, 4), (5, 5)])
        self.check(nodes[:3], ("least", 2), [(-7, 8), (0, 9), (5, 5), (0, 1)], 1, [(-7, 8), (4, 9), (5, 5), (0, 1)])

    def test_unknowns_in_another_order(self):
        nodes = [("unknown", 2), ("unknown", 0), ("minus", 0, 1)]
        self.check(nodes, ("zero", 2), [(0, 5), (70, 80), (3, 9)], 1, [(3, 5), (70, 80), (3, 5)])


class Otherwise(NarrowCase):
    def test_by_chance(self):
        chance = random.Random(21)
        counts = {"none": 0, "same": 0, "narrower": 0}
        for number in range(1500):
            many = chance.randint(1, 4)
            nodes = net_by_chance(chance, many, most=10, weight=8)
            box = box_by_chance(chance, many, 6)
            grid = chance.choice((1, 2, 3, 7))
            for at in range(len(nodes)):
                for word in WORDS:
                    wanted = narrowed_otherwise(nodes, (word, at), box, grid)
                    self.check(nodes, (word, at), box, grid, wanted)
                    counts["none" if wanted is None else "same" if wanted == box else "narrower"] += 1
        self.assertGreater(min(counts.values()), 1000, counts)

    def test_without_powers_and_with_fifteen_figures(self):
        chance = random.Random(211)
        narrower = 0
        for number in range(400):
            many = chance.randint(1, 4)
            nodes = [node for node in net_by_chance(chance, many, most=30) if node[0] in ("unknown", "number")]
            for time in range(8):
                node = (chance.choice(("plus", "minus", "times")), *chance.choices(range(len(nodes)), k=2)) if nodes else X
                if node not in nodes:
                    nodes.append(node)
            box = box_by_chance(chance, many, FIFTEEN)
            grid = chance.choice(GRIDS)
            for word in WORDS:
                row = (word, len(nodes) - 1)
                wanted = narrowed_otherwise(nodes, row, box, grid)
                self.check(nodes, row, box, grid, wanted)
                narrower += wanted != box
        self.assertGreater(narrower, 100)


class Answers(AnswersStay, NarrowCase):
    def left(self, nodes, row, box, grid):
        return narrowed(nodes, row, box, grid)


class AskersOwn(NarrowCase):
    def test_told_again(self):
        nodes, rows = told("x + y = 4")
        box = [(0, 9), (3, 9)]
        first = narrowed(nodes, rows[0], box, 1)
        first.clear()
        self.assertEqual(narrowed(nodes, rows[0], box, 1), [(0, 1), (3, 4)])
        self.assertEqual(box, [(0, 9), (3, 9)])

    def test_a_box_that_stays_is_told_as_a_new_list(self):
        for nodes, row in (([("number", 0, 1)], ("zero", 0)), ([X, ("minus", 0, 0)], ("zero", 1))):
            box = [(0, 9), (3, 9)]
            answer = narrowed(nodes, row, box, 1)
            self.assertEqual(answer, box)
            answer.clear()
            self.assertEqual(box, [(0, 9), (3, 9)])

    def test_lists_changed_later(self):
        nodes, rows = told("x + y = 4")
        box = [(0, 9), (3, 9)]
        answer = narrowed(nodes, rows[0], box, 1)
        nodes.clear()
        box.clear()
        self.assertEqual(answer, [(0, 1), (3, 4)])


if __name__ == "__main__":
    unittest.main()
