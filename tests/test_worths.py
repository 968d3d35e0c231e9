"""Points 2, 11, 17, 18 and 19: worths of nodes, exact and over boxes; what a row's word asks."""

import random
import unittest
from fractions import Fraction
from itertools import product

from boxnarrow.spans import holds, inside
from boxnarrow.worths import bars, exacts, met, sure, worths
from tests.chance import FIFTEEN, GRIDS, asked_by_chance, net_by_chance, point_by_chance
from tests.helping import check_pair, check_spans
from tests.otherwise import exact_otherwise, worths_otherwise

X = ("unknown", 0)
Y = ("unknown", 1)
# One node of each kind, parts used twice, and all powers.
EACH = [
    X, Y, ("number", -3, 2), ("number", 2, 1), ("plus", 0, 1), ("minus", 0, 2), ("times", 4, 3), ("minus", 4, 4),
    ("times", 1, 1), ("power", 0, 2), ("power", 0, 3), ("power", 5, 4), ("power", 1, 5), ("power", 0, 6), ("plus", 6, 6),
]
THIRTY = 10 ** 29 + 1
WORDS = ("zero", "least")


class WorthCase(unittest.TestCase):
    def check_exacts(self, nodes, point, wanted):
        kept = (list(nodes), list(point))
        answer = exacts(nodes, point)
        self.assertIs(type(answer), list)
        for pair in answer:
            check_pair(self, pair)
        self.assertEqual(answer, wanted)
        self.assertEqual((nodes, point), kept)

    def check_worths(self, nodes, box, grid, wanted):
        kept = (list(nodes), list(box))
        answer = worths(nodes, box, grid)
        check_spans(self, answer, len(nodes))
        self.assertEqual(answer, wanted)
        self.assertEqual((nodes, box), kept)

    def check_truth(self, answer, wanted, told):
        self.assertIs(answer, wanted, told)


class Exacts(WorthCase):
    def test_no_nodes(self):
        self.check_exacts([], [(1, 2)], [])

    def test_each_kind(self):
        self.check_exacts(EACH, [(1, 2), (-2, 1)], [
            (1, 2), (-2, 1), (-3, 2), (2, 1), (-3, 2), (2, 1), (-3, 1), (0, 1), (4, 1), (1, 4), (1, 8), (16, 1), (-32, 1),
            (1, 64), (-6, 1),
        ])

    def test_whole_numbers_and_fractions_below_nought(self):
        for point in product([(0, 1), (3, 1), (-4, 1), (-2, 3), (5, 7), (-1, 1000000)], repeat=2):
            wanted = [exact_otherwise(EACH, at, point).as_integer_ratio() for at in range(len(EACH))]
            self.check_exacts(EACH, list(point), wanted)

    def test_thirty_figures(self):
        for point in ([(THIRTY, THIRTY + 1), (-THIRTY, THIRTY - 2)], [(1, THIRTY), (THIRTY, 1)], [(-1, THIRTY), (-THIRTY, 2)]):
            wanted = [exact_otherwise(EACH, at, point).as_integer_ratio() for at in range(len(EACH))]
            self.check_exacts(EACH, point, wanted)

    def test_in_lowest_terms(self):
        nodes = [X, Y, ("plus", 0, 1), ("times", 0, 1), ("minus", 0, 1)]
        self.check_exacts(nodes, [(1, 6), (3, 10)], [(1, 6), (3, 10), (7, 15), (1, 20), (-2, 15)])

    def test_unknowns_without_a_node(self):
        self.check_exacts([("unknown", 2)], [(1, 2), (1, 3), (1, 4), (1, 5)], [(1, 4)])
        self.check_exacts([("number", 1, 3), ("power", 0, 2)], [(1, 2)], [(1, 3), (1, 9)])
        self.check_exacts([("unknown", 3), ("unknown", 1)], [(1, 2), (1, 3), (1, 4), (1, 5)], [(1, 5), (1, 3)])

    def test_by_chance(self):
        chance = random.Random(17)
        for number in range(150):
            many = chance.randint(1, 4)
            nodes = net_by_chance(chance, many)
            point = [Fraction(chance.randint(-99, 99), chance.randint(1, 99)).as_integer_ratio() for k in range(many)]
            wanted = [exact_otherwise(nodes, at, point).as_integer_ratio() for at in range(len(nodes))]
            self.check_exacts(nodes, point, wanted)


class Worths(WorthCase):
    def test_no_nodes(self):
        self.check_worths([], [(1, 2)], 1, [])

    def test_each_kind(self):
        self.check_worths(EACH, [(-1, 2), (3, 4)], 1, [
            (-1, 2), (3, 4), (-2, -1), (2, 2), (2, 6), (0, 4), (4, 12), (-4, 4), (9, 16), (0, 4), (-1, 8), (0, 256), (243, 1024),
            (0, 64), (8, 24),
        ])
        self.check_worths(EACH[:10], [(-5, 3), (10, 20)], 10, [
            (-5, 3), (10, 20), (-15, -15), (20, 20), (5, 23), (10, 18), (10, 46), (-18, 18), (10, 40), (0, 3),
        ])

    def test_numbers_that_lie_on_no_step(self):
        nodes = [("number", 1, 3), ("number", -1, 3), ("number", 999999999, 999999998), ("plus", 0, 1), ("times", 0, 0)]
        self.check_worths(nodes, [(0, 0)], 1, [(0, 1), (-1, 0), (1, 2), (-1, 1), (0, 1)])
        self.check_worths(nodes, [(0, 0)], 3, [(1, 1), (-1, -1), (3, 4), (0, 0), (0, 1)])
        self.check_worths(nodes, [(0, 0)], 1000000, [
            (333333, 333334), (-333334, -333333), (1000000, 1000001), (-1, 1), (111110, 111112),
        ])

    def test_spans_about_nought(self):
        nodes = [X, ("power", 0, 2), ("power", 0, 3), ("times", 0, 0), ("minus", 0, 0)]
        for span, wanted in (
            ((-2, 3), [(0, 9), (-8, 27), (-6, 9), (-5, 5)]), ((0, 3), [(0, 9), (0, 27), (0, 9), (-3, 3)]),
            ((-2, 0), [(0, 4), (-8, 0), (0, 4), (-2, 2)]), ((0, 0), [(0, 0)] * 4), ((2, 2), [(4, 4), (8, 8), (4, 4), (0, 0)]),
            ((-3, -2), [(4, 9), (-27, -8), (4, 9), (-1, 1)]),
        ):
            self.check_worths(nodes, [span], 1, [span] + wanted)

    def test_unknowns_without_a_node(self):
        box = [(1, 2), (3, 4), (5, 6), (7, 8)]
        self.check_worths([("unknown", 2)], box, 1, [(5, 6)])
        self.check_worths([("unknown", 3), ("unknown", 0), ("minus", 0, 1)], box, 1, [(7, 8), (1, 2), (5, 7)])
        self.check_worths([("number", 5, 1)], box, 1, [(5, 5)])

    def test_one_to_four_unknowns(self):
        nodes = [("unknown", place) for place in range(4)] + [("plus", 0, 1), ("plus", 4, 2), ("plus", 5, 3)]
        box = [(1, 2), (-3, 4), (5, 6), (7, 70)]
        self.check_worths(nodes, box, 9, box + [(-2, 6), (3, 12), (10, 82)])
        for many in range(1, 4):
            self.check_worths(nodes[:many], box[:many], 9, box[:many])

    def test_rounded_at_each_node(self):
        # The product alone is 0.25 steps; rounded outward it is (0, 1), and so its square goes up to 1.
        nodes = [X, ("times", 0, 0), ("times", 1, 1), ("plus", 2, 2)]
        self.check_worths(nodes, [(1, 1)], 4, [(1, 1), (0, 1), (0, 1), (0, 2)])

    def test_fifteen_figures(self):
        box = [(-FIFTEEN, FIFTEEN - 5), (3, FIFTEEN)]
        for grid in GRIDS:
            self.check_worths(EACH, box, grid, worths_otherwise(EACH, box, grid))

    def test_by_chance(self):
        chance = random.Random(18)
        for number in range(150):
            nodes, box, grid = asked_by_chance(chance)
            self.check_worths(nodes, box, grid, worths_otherwise(nodes, box, grid))

    def test_exact_worths_lie_in_worths(self):
        chance = random.Random(181)
        for number in range(120):
            nodes, box, grid = asked_by_chance(chance)
            spans = worths(nodes, box, grid)
            corners = [[Fraction(end, grid).as_integer_ratio() for end in corner] for corner in product(*box)]
            for point in corners + [point_by_chance(chance, box, grid) for time in range(5)]:
                for span, worth in zip(spans, exacts(nodes, point), strict=True):
                    self.assertTrue(holds(span, worth, grid), (nodes, box, grid, point))

    def test_over_a_box_within(self):
        chance = random.Random(182)
        for number in range(150):
            nodes, box, grid = asked_by_chance(chance)
            within = [tuple(sorted(chance.randint(*span) for end in range(2))) for span in box]
            for span, wider in zip(worths(nodes, within, grid), worths(nodes, box, grid), strict=True):
                self.assertTrue(inside(span, wider), (nodes, box, within, grid))


class Words(WorthCase):
    def test_met(self):
        for pair, zero, least in (
            ((0, 1), True, True), ((1, 1), False, True), ((-1, 1), False, False), ((1, 2), False, True), ((-1, 2), False, False),
            ((1, 10 ** 29), False, True), ((-1, 10 ** 29), False, False), ((THIRTY, 7), False, True), ((-THIRTY, 7), False, False),
        ):
            self.check_truth(met("zero", pair), zero, pair)
            self.check_truth(met("least", pair), least, pair)

    def test_bars(self):
        for span, zero, least in (
            ((0, 0), False, False), ((-1, -1), True, True), ((1, 1), True, False), ((-1, 0), False, False),
            ((0, 1), False, False), ((-1, 1), False, False), ((-2, -1), True, True), ((1, 2), True, False),
            ((-9, 9), False, False), ((-9, 0), False, False), ((-9, -1), True, True), ((-FIFTEEN, FIFTEEN), False, False),
        ):
            self.check_truth(bars("zero", span), zero, span)
            self.check_truth(bars("least", span), least, span)

    def test_sure(self):
        for span, zero, least in (
            ((0, 0), True, True), ((-1, -1), False, False), ((1, 1), False, True), ((-1, 0), False, False),
            ((0, 1), False, True), ((-1, 1), False, False), ((-2, -1), False, False), ((1, 2), False, True),
            ((-9, 9), False, False), ((0, 9), False, True), ((-9, 0), False, False), ((-1, FIFTEEN), False, False),
        ):
            self.check_truth(sure("zero", span), zero, span)
            self.check_truth(sure("least", span), least, span)

    def test_as_the_numbers_of_a_span_are(self):
        # The ends, halves of steps between them and nought are enough: what a word asks changes at nought alone.
        for low in range(-3, 4):
            for high in range(low, 4):
                numbers = [Fraction(half, 2).as_integer_ratio() for half in range(2 * low, 2 * high + 1)]
                for word in WORDS:
                    as_asked = [met(word, number) for number in numbers]
                    self.check_truth(bars(word, (low, high)), not any(as_asked), (word, low, high))
                    self.check_truth(sure(word, (low, high)), all(as_asked), (word, low, high))


class AskersOwn(WorthCase):
    def test_told_again(self):
        nodes, point, box = list(EACH), [(1, 2), (-2, 1)], [(-1, 2), (3, 4)]
        for told, ask in ((exacts(nodes, point), lambda: exacts(nodes, point)),
                          (worths(nodes, box, 1), lambda: worths(nodes, box, 1))):
            kept = list(told)
            told.reverse()
            self.assertEqual(ask(), kept)
            told.clear()
            self.assertEqual(ask(), kept)
            self.assertIsNot(ask(), ask())
        self.assertEqual((nodes, point, box), (EACH, [(1, 2), (-2, 1)], [(-1, 2), (3, 4)]))

    def test_lists_changed_later(self):
        nodes, point, box = list(EACH), [(1, 2), (-2, 1)], [(-1, 2), (3, 4)]
        told = (exacts(nodes, point), worths(nodes, box, 1))
        kept = (list(told[0]), list(told[1]))
        for handed in (nodes, point, box):
            handed.clear()
        self.assertEqual(told, kept)

    def test_what_is_told_is_not_what_was_handed_in(self):
        box, point = [(1, 2)], [(1, 2)]
        self.assertIsNot(worths([X], box, 1), box)
        self.assertIsNot(exacts([X], point), point)


if __name__ == "__main__":
    unittest.main()
