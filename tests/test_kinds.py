"""Points 2, 9, 17, 18 and 20: the kinds of nodes, their worths and the way back of each."""

import random
import unittest
from fractions import Fraction

from boxnarrow.kinds import Minus, Node, Number, Plus, Power, Times, Unknown, kind_of
from tests.helping import check_pair, check_span, is_int
from tests.otherwise import back_otherwise, forth_otherwise

SIX = (
    (("number", -3, 2), Number), (("unknown", 3), Unknown), (("plus", 4, 7), Plus), (("minus", 4, 7), Minus),
    (("times", 4, 7), Times), (("power", 4, 6), Power),
)
SMALL = [(low, high) for low in range(-2, 3) for high in range(low, 3)]
THIRTY = 10 ** 29 + 1
FIFTEEN = 10 ** 14 + 7
GRIDS = (1, 2, 3, 1000000)
# Spans that no kind asks for are such that a part taken from the wrong place is seen.
STRANGE = (777, 778)


def values(node):
    """The values of an object that the document names, by those that it has."""
    names = ("top", "bottom", "place", "one", "other", "many")
    return [(name, getattr(node, name)) for name in names if hasattr(node, name)]


class KindCase(unittest.TestCase):
    def check_exact(self, node, fractions, point, wanted):
        kept = (list(fractions), list(point))
        answer = node.exact(fractions, point)
        check_pair(self, answer)
        self.assertEqual(answer, wanted)
        self.assertEqual((fractions, point), kept)

    def check_forth(self, node, spans, box, grid, wanted):
        kept = (list(spans), list(box))
        answer = node.forth(spans, box, grid)
        check_span(self, answer)
        self.assertEqual(answer, wanted)
        self.assertEqual((spans, box), kept)

    def check_back(self, node, spans, here, grid, wanted):
        kept = list(spans)
        answer = node.back(spans, here, grid)
        self.assertEqual(answer, wanted)
        self.assertEqual(spans, kept)
        if answer is None:
            return
        self.assertIs(type(answer), list)
        for part in answer:
            self.assertIs(type(part), tuple)
            self.assertEqual(len(part), 2)
            self.assertTrue(is_int(part[0]))
            check_span(self, part[1])


class Objects(unittest.TestCase):
    def test_kind_of(self):
        for node, wanted in SIX:
            with self.subTest(node=node):
                made = kind_of(node)
                self.assertIs(type(made), wanted)
                self.assertIsInstance(made, Node)
                self.assertEqual([kind for told, kind in SIX if isinstance(made, kind)], [wanted])

    def test_each_is_under_node(self):
        for node, kind in SIX:
            self.assertTrue(issubclass(kind, Node))
            self.assertIsInstance(kind(2, 3) if kind != Unknown else kind(2), Node)
        self.assertIs(type(Node()), Node)

    def test_values(self):
        self.assertEqual(values(Number(-3, 2)), [("top", -3), ("bottom", 2)])
        self.assertEqual(values(Unknown(3)), [("place", 3)])
        for kind in (Plus, Minus, Times):
            self.assertEqual(values(kind(4, 7)), [("one", 4), ("other", 7)])
        self.assertEqual(values(Power(4, 6)), [("one", 4), ("many", 6)])

    def test_values_of_kind_of(self):
        told = [[value for name, value in values(kind_of(node))] for node, kind in SIX]
        self.assertEqual(told, [list(node[1:]) for node, kind in SIX])

    def test_a_new_object_each_time(self):
        for node, kind in SIX:
            self.assertIsNot(kind_of(node), kind_of(node))


class Exact(KindCase):
    FRACTIONS = [(1, 2), (-2, 3), (0, 1), (5, 1), (-7, 4)]

    def test_number(self):
        for pair in ((0, 1), (1, 1), (-3, 2), (999999999, 999999998)):
            self.check_exact(Number(*pair), [], [], pair)
            self.check_exact(Number(*pair), [(9, 1)], [(8, 1)], pair)

    def test_unknown(self):
        point = [(1, 2), (-3, 4), (0, 1), (THIRTY, THIRTY + 1)]
        for place in range(4):
            self.check_exact(Unknown(place), [], point, point[place])
            self.check_exact(Unknown(place), self.FRACTIONS, point, point[place])

    def test_two_parts(self):
        for one, first in enumerate(self.FRACTIONS):
            for other, second in enumerate(self.FRACTIONS):
                a, b = Fraction(*first), Fraction(*second)
                for kind, worth in ((Plus, a + b), (Minus, a - b), (Times, a * b)):
                    self.check_exact(kind(one, other), self.FRACTIONS, [(9, 1)], worth.as_integer_ratio())

    def test_plain_ones(self):
        self.check_exact(Plus(0, 1), [(1, 6), (1, 3)], [], (1, 2))
        self.check_exact(Minus(0, 1), [(1, 6), (1, 3)], [], (-1, 6))
        self.check_exact(Minus(1, 0), [(1, 6), (1, 3)], [], (1, 6))
        self.check_exact(Times(0, 1), [(2, 3), (-3, 2)], [], (-1, 1))
        self.check_exact(Minus(0, 0), [(2, 3)], [], (0, 1))
        self.check_exact(Plus(0, 0), [(1, 2)], [], (1, 1))
        self.check_exact(Times(0, 0), [(-2, 3)], [], (4, 9))

    def test_powers(self):
        for many in range(2, 7):
            for at, pair in enumerate(self.FRACTIONS):
                self.check_exact(Power(at, many), self.FRACTIONS, [], (Fraction(*pair) ** many).as_integer_ratio())

    def test_thirty_figures(self):
        a, b = (THIRTY, THIRTY + 1), (-THIRTY - 2, THIRTY)
        self.check_exact(Plus(0, 1), [a, b], [], (Fraction(*a) + Fraction(*b)).as_integer_ratio())
        self.check_exact(Times(0, 1), [a, b], [], (Fraction(*a) * Fraction(*b)).as_integer_ratio())
        self.check_exact(Power(1, 6), [a, b], [], ((THIRTY + 2) ** 6, THIRTY ** 6))

    def test_later_ones_stay_out_of_it(self):
        fractions = [(1, 2), (1, 3), (77, 1), (78, 1)]
        self.check_exact(Plus(0, 1), fractions, [(5, 1)], (5, 6))
        self.check_exact(Power(1, 2), fractions, [(5, 1)], (1, 9))


class Forth(KindCase):
    def test_number(self):
        cases = (((0, 1), 1, (0, 0)), ((3, 1), 1, (3, 3)), ((-3, 2), 1, (-2, -1)), ((-3, 2), 2, (-3, -3)), ((1, 3), 10, (3, 4)),
                 ((-1, 3), 10, (-4, -3)), ((1, 3), 1000000, (333333, 333334)), ((1, 3), 3, (1, 1)),
                 ((999999999, 1), 1000000, (999999999000000, 999999999000000)), ((1, 999999999), 1000000, (0, 1)))
        for pair, grid, wanted in cases:
            self.check_forth(Number(*pair), [], [(5, 9)], grid, wanted)

    def test_unknown(self):
        box = [(-3, 4), (0, 0), (-FIFTEEN, FIFTEEN), (7, 9)]
        for place in range(4):
            for grid in GRIDS:
                self.check_forth(Unknown(place), [STRANGE], box, grid, box[place])

    def test_plain_ones(self):
        spans = [(-2, 3), (4, 5), (-7, -6)]
        self.check_forth(Plus(0, 1), spans, [], 10, (2, 8))
        self.check_forth(Minus(0, 1), spans, [], 10, (-7, -1))
        self.check_forth(Minus(1, 0), spans, [], 10, (1, 7))
        self.check_forth(Times(0, 2), spans, [], 1, (-21, 14))
        self.check_forth(Times(0, 2), spans, [], 10, (-3, 2))
        self.check_forth(Power(0, 2), spans, [], 1, (0, 9))
        self.check_forth(Power(2, 3), spans, [], 10, (-4, -2))

    def test_a_node_with_itself(self):
        # All differences and products of two numbers of the span are told, not only those of one.
        self.check_forth(Minus(0, 0), [(-2, 3)], [], 1, (-5, 5))
        self.check_forth(Times(0, 0), [(-2, 3)], [], 1, (-6, 9))
        self.check_forth(Plus(0, 0), [(-2, 3)], [], 1, (-4, 6))
        self.check_forth(Power(0, 2), [(-2, 3)], [], 1, (0, 9))

    def test_all_small_ones(self):
        for grid in GRIDS:
            for x in SMALL:
                for y in SMALL:
                    spans = [STRANGE, x, y, STRANGE]
                    for node in (("plus", 1, 2), ("minus", 1, 2), ("times", 1, 2), ("minus", 2, 1)):
                        self.check_forth(kind_of(node), spans, [STRANGE], grid, forth_otherwise(node, spans, [], grid))
                for many in range(2, 7):
                    node = ("power", 1, many)
                    spans = [STRANGE, x, STRANGE]
                    self.check_forth(kind_of(node), spans, [STRANGE], grid, forth_otherwise(node, spans, [], grid))

    def test_fifteen_figures(self):
        spans = [(-FIFTEEN, FIFTEEN - 3), (3, FIFTEEN)]
        for grid in GRIDS:
            for node in (("plus", 0, 1), ("minus", 0, 1), ("times", 0, 1), ("power", 0, 5), ("power", 0, 6)):
                self.check_forth(kind_of(node), spans, [], grid, forth_otherwise(node, spans, [], grid))


class Back(KindCase):
    def test_numbers_and_unknowns(self):
        for here in ((-1, 1), (5, 5), (700, 900)):
            for grid in GRIDS:
                self.check_back(Number(1, 2), [(0, 1)], here, grid, [])
                self.check_back(Unknown(0), [(0, 1)], here, grid, [])
                self.check_back(Unknown(3), [], here, grid, [])

    def test_sums(self):
        self.check_back(Plus(0, 1), [(0, 10), (0, 10)], (0, 3), 1, [(0, (0, 3)), (1, (0, 3))])
        self.check_back(Plus(0, 1), [(0, 10), (5, 10)], (0, 8), 1, [(0, (0, 3)), (1, (5, 8))])
        self.check_back(Plus(0, 1), [(-5, 5), (-5, 5)], (10, 12), 1, [(0, (5, 5)), (1, (5, 5))])
        self.check_back(Plus(1, 0), [(5, 10), (0, 10)], (0, 8), 1, [(1, (0, 3)), (0, (5, 8))])
        self.check_back(Plus(0, 1), [(0, 1), (0, 1)], (-9, 9), 1, [(0, (0, 1)), (1, (0, 1))])

    def test_differences(self):
        self.check_back(Minus(0, 1), [(0, 10), (4, 6)], (0, 0), 1, [(0, (4, 6)), (1, (4, 6))])
        self.check_back(Minus(0, 1), [(0, 10), (4, 20)], (2, 5), 1, [(0, (6, 10)), (1, (4, 8))])
        self.check_back(Minus(1, 0), [(0, 10), (4, 20)], (-6, -5), 1, [(1, (4, 5)), (0, (9, 10))])

    def test_products(self):
        self.check_back(Times(0, 1), [(-9, 9), (2, 3)], (6, 12), 1, [(0, (2, 6)), (1, (2, 3))])
        self.check_back(Times(0, 1), [(4, 9), (1, 9)], (6, 12), 1, [(0, (4, 9)), (1, (1, 3))])
        self.check_back(Times(0, 1), [(10, 20), (-20, 20)], (10, 10), 10, [(0, (10, 20)), (1, (5, 10))])
        self.check_back(Times(0, 1), [(-5, 5), (-1, 1)], (0, 3), 1, [(0, (-5, 5)), (1, (-1, 1))])

    def test_powers(self):
        self.check_back(Power(0, 2), [(-9, 9)], (4, 16), 1, [(0, (-4, 4))])
        self.check_back(Power(0, 2), [(0, 9)], (4, 16), 1, [(0, (2, 4))])
        self.check_back(Power(0, 2), [(0, 2)], (2, 2), 1, [(0, (1, 2))])
        self.check_back(Power(0, 3), [(-9, 9)], (-8, 27), 1, [(0, (-2, 3))])
        self.check_back(Power(1, 2), [STRANGE, (0, 90)], (10, 40), 10, [(1, (10, 20))])
        self.check_back(Power(0, 2), [(-9, 9)], (-5, -1), 1, None)

    def test_both_steps(self):
        self.check_back(Times(0, 1), [(0, 6), (3, 9)], (15, 15), 1, [(0, (1, 5)), (1, (3, 9))])
        self.check_back(Times(0, 1), [(0, 4), (1, 9)], (8, 12), 1, [(0, (0, 4)), (1, (2, 9))])
        self.check_back(Times(0, 1), [(0, 2), (1, 3)], (4, 5), 1, [(0, (1, 2)), (1, (2, 3))])
        self.check_back(Minus(0, 1), [(0, 20), (0, 4)], (-2, 0), 1, [(0, (0, 4)), (1, (0, 4))])
        self.check_back(Minus(0, 1), [(0, 20), (0, 40)], (30, 40), 1, None)

    def test_none_by_the_first_step(self):
        self.check_back(Plus(0, 1), [(0, 1), (0, 1)], (3, 9), 1, None)
        self.check_back(Plus(0, 1), [(0, 1), (0, 1)], (-9, -1), 1, None)
        self.check_back(Minus(0, 1), [(0, 1), (0, 1)], (2, 9), 1, None)
        self.check_back(Minus(0, 1), [(0, 1), (0, 1)], (-9, -2), 1, None)
        self.check_back(Times(0, 1), [(0, 1), (0, 1)], (2, 9), 1, None)
        self.check_back(Times(0, 1), [(0, 2), (3, 3)], (7, 7), 1, None)
        self.check_back(Times(0, 1), [(1, 2), (0, 0)], (1, 1), 1, None)

    def test_none_by_the_second_step(self):
        # Only a difference of a node with itself comes to it: there the first step throws away what is needed as y.
        self.check_back(Minus(0, 0), [(0, 10)], (7, 8), 1, None)
        self.check_back(Minus(0, 0), [(0, 10)], (6, 6), 1, None)
        self.check_back(Minus(0, 0), [(0, 10)], (-8, -7), 1, None)
        self.check_back(Minus(0, 0), [(0, 10)], (5, 5), 1, [(0, (5, 10)), (0, (5, 5))])
        self.check_back(Minus(1, 1), [(0, 10), (3, 9)], (4, 4), 1000000, None)

    def test_a_touch_in_one_step(self):
        self.check_back(Plus(0, 1), [(0, 3), (2, 4)], (7, 9), 1, [(0, (3, 3)), (1, (4, 4))])
        self.check_back(Plus(0, 1), [(0, 3), (2, 4)], (-5, 2), 1, [(0, (0, 0)), (1, (2, 2))])
        self.check_back(Plus(0, 1), [(0, 3), (2, 4)], (8, 9), 1, None)
        self.check_back(Minus(0, 1), [(0, 3), (2, 4)], (1, 9), 1, [(0, (3, 3)), (1, (2, 2))])
        self.check_back(Minus(0, 1), [(0, 3), (2, 4)], (-9, -4), 1, [(0, (0, 0)), (1, (4, 4))])
        self.check_back(Minus(0, 1), [(0, 3), (2, 4)], (2, 9), 1, None)
        self.check_back(Times(0, 1), [(1, 3), (2, 4)], (12, 19), 1, [(0, (3, 3)), (1, (4, 4))])
        self.check_back(Times(0, 1), [(1, 3), (2, 4)], (0, 2), 1, [(0, (1, 1)), (1, (2, 2))])
        self.check_back(Times(0, 1), [(1, 3), (2, 4)], (13, 19), 1, None)
        self.check_back(Power(0, 2), [(1, 3)], (9, 19), 1, [(0, (3, 3))])
        self.check_back(Power(0, 2), [(1, 3)], (10, 19), 1, None)

    def test_both_parts_the_same_node(self):
        self.check_back(Plus(0, 0), [(0, 10)], (4, 6), 1, [(0, (0, 6)), (0, (0, 6))])
        self.check_back(Plus(0, 0), [(2, 10)], (6, 7), 1, [(0, (2, 5)), (0, (2, 5))])
        self.check_back(Minus(0, 0), [(0, 10)], (4, 6), 1, [(0, (4, 10)), (0, (4, 6))])
        self.check_back(Minus(0, 0), [(0, 10)], (0, 0), 1, [(0, (0, 10)), (0, (0, 10))])
        self.check_back(Times(0, 0), [(1, 9)], (9, 16), 1, [(0, (1, 9)), (0, (1, 9))])
        self.check_back(Times(0, 0), [(2, 9)], (9, 10), 1, [(0, (2, 5)), (0, (2, 5))])
        self.check_back(Times(0, 0), [(-2, 9)], (-6, -3), 1, [(0, (-2, 9)), (0, (-2, 9))])
        self.check_back(Times(0, 0), [(-2, 9)], (-18, -17), 1, [(0, (-2, 9)), (0, (-2, 9))])

    def test_other_spans_stay_out_of_it(self):
        spans = [STRANGE, (0, 10), STRANGE, (5, 10), STRANGE]
        self.check_back(Plus(1, 3), spans, (0, 8), 1, [(1, (0, 3)), (3, (5, 8))])
        self.check_back(Minus(3, 1), spans, (0, 1), 1, [(3, (5, 10)), (1, (4, 10))])
        self.check_back(Times(3, 1), spans, (10, 10), 1, [(3, (5, 10)), (1, (1, 2))])
        self.check_back(Power(3, 2), spans, (36, 40), 1, [(3, (6, 7))])

    def test_all_small_ones(self):
        for grid in (1, 2, 1000000):
            for x in SMALL:
                for y in SMALL:
                    for here in SMALL:
                        for kind in ("plus", "minus", "times"):
                            spans = [x, STRANGE, y]
                            for node in ((kind, 0, 2), (kind, 2, 0)):
                                wanted = back_otherwise(node, spans, here, grid)
                                self.check_back(kind_of(node), spans, here, grid, wanted)

    def test_all_small_ones_with_themselves(self):
        wide = [(low, high) for low in range(-7, 8) for high in range(low, 8)]
        for grid in (1, 3):
            for x in SMALL:
                for here in wide:
                    for node in (("plus", 1, 1), ("minus", 1, 1), ("times", 1, 1), ("power", 1, 2), ("power", 1, 3)):
                        spans = [STRANGE, x]
                        self.check_back(kind_of(node), spans, here, grid, back_otherwise(node, spans, here, grid))

    def test_fifteen_figures(self):
        chance = random.Random(20)
        nones = 0
        for number in range(2000):
            spans = [tuple(sorted(chance.randint(-FIFTEEN, FIFTEEN) for end in range(2))) for span in range(2)]
            grid = chance.choice(GRIDS)
            node = (chance.choice(("plus", "minus", "times")), *chance.choice(((0, 1), (1, 0), (0, 0))))
            scale = FIFTEEN // grid if node[0] == "times" else 1
            here = tuple(sorted(chance.randint(-2 * FIFTEEN, 2 * FIFTEEN) * scale for end in range(2)))
            wanted = back_otherwise(node, spans, here, grid)
            nones += wanted is None
            self.check_back(kind_of(node), spans, here, grid, wanted)
        self.assertGreater(nones, 100)

    def test_each_list_is_a_new_one(self):
        for node in (Number(1, 2), Unknown(0), Plus(0, 1), Power(0, 2)):
            spans = [(0, 9), (0, 9)]
            first = node.back(spans, (0, 4), 1)
            kept = list(first)
            first.append("more")
            self.assertEqual(node.back(spans, (0, 4), 1), kept)


if __name__ == "__main__":
    unittest.main()
