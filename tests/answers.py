"""What is told of each way that leaves a part of a box for a row: each point at which the row is met is left."""

import random
from fractions import Fraction
from itertools import product

from boxnarrow.spans import holds, inside
from boxnarrow.worths import exacts, met
from tests.chance import asked_by_chance, point_by_chance
from tests.helping import told
from tests.otherwise import exact_otherwise

LINES = (
    "x * y = 6", "x ^ 2 + y ^ 2 = 25", "x ^ 3 - y = 0", "x * y >= x + y", "x - y ^ 2 >= 2", "x * x - y * y = 0", "x * y + x = 4",
)


class AnswersStay:
    """A test case that has this has left(nodes, row, box, grid), what is left of the box, or None."""

    def check_point(self, nodes, row, box, grid, point):
        self.assertTrue(met(row[0], exacts(nodes, point)[row[1]]))
        answer = self.left(nodes, row, box, grid)
        self.assertIsNotNone(answer, (nodes, row, box, grid, point))
        for new, old, number in zip(answer, box, point, strict=True):
            self.assertTrue(inside(new, old) and holds(new, number, grid), (nodes, row, box, grid, point))
        return answer

    def test_rows_made_for_a_point(self):
        chance = random.Random(212)
        narrower = 0
        for number in range(400):
            nodes, box, grid = asked_by_chance(chance, weight=15)
            point = point_by_chance(chance, box, grid)
            at = len(nodes) - 1
            worth = exact_otherwise(nodes, at, point)
            # The row is met just at the point, and where the node is worth the same.
            nodes += [("number", *worth.as_integer_ratio())]
            if nodes.index(nodes[-1]) != at + 1:
                continue
            for node, word in ((("minus", at, at + 1), "zero"), (("minus", at, at + 1), "least"), (("minus", at + 1, at), "least")):
                narrower += self.check_point(nodes + [node], (word, at + 2), box, grid, point) != box
        self.assertGreater(narrower, 100)

    def test_all_points_of_a_few_boxes(self):
        for line in LINES:
            nodes, rows = told(line)
            for box in ([(-12, 12), (-12, 12)], [(0, 12), (-3, 10)], [(2, 7), (4, 9)], [(-10, -2), (-4, 12)]):
                for grid in (1, 2):
                    places = [[Fraction(half, 2 * grid).as_integer_ratio() for half in range(2 * low, 2 * high + 1)] for low, high in box]
                    for point in product(*places):
                        if met(rows[0][0], exacts(nodes, list(point))[rows[0][1]]):
                            self.check_point(nodes, rows[0], box, grid, list(point))
