"""Points 2, 3, 27 and 28: the search and its book, and the leaf of a point."""

import random
import unittest
from collections import Counter
from copy import deepcopy
from fractions import Fraction

from boxnarrow.search import leaf_of, search
from boxnarrow.worths import worths
from tests.chance import FIFTEEN, point_by_chance, searched_by_chance
from tests.helping import check_book, lists_in, told, unchanged
from tests.known import TASKS, asked
from tests.otherwise_books import leaf_otherwise, search_otherwise

WAITS = ("waits",)
SMALL = ("small",)


class SearchCase(unittest.TestCase):
    def found(self, nodes, rows, box, grid, fine, looks):
        book = unchanged(self, search, nodes, rows, box, grid, fine, looks)
        check_book(self, book, len(box))
        self.assertEqual(book[0][0], box)
        return book

    def check(self, lines, box, grid, fine, looks, wanted):
        nodes, rows = told(*lines)
        self.assertEqual(self.found(nodes, rows, box, grid, fine, looks), wanted)
        self.assertEqual(search_otherwise(nodes, rows, box, grid, fine, looks), wanted)

    def check_entries(self, lines, box, grid, fine, looks, wanted):
        """Of each entry: its box, and its fate without the papers."""
        nodes, rows = told(*lines)
        book = self.found(nodes, rows, box, grid, fine, looks)
        self.assertEqual([(*own, fate if fate[0] == "cut" else fate[:1 + (fate[0] == "out")]) for own, fate in book], wanted)
        self.assertEqual(book, search_otherwise(nodes, rows, box, grid, fine, looks))


class FirstLook(SearchCase):
    def test_no_looks(self):
        for lines in (("x = 5",), ("x >= 20",), ("x >= 0",), ("let a = x",)):
            for box in ([(0, 10)], [(5, 5)], [(5, 6)], [(-FIFTEEN, FIFTEEN)]):
                self.check(lines, box, 1, 1, 0, [(box, WAITS)])

    def test_no_rows(self):
        self.check(("let a = x + 1/3",), [(0, 10)], 10, 1, 1, [([(0, 10)], ("full", [(0, 10), (3, 4), (3, 14)]))])
        for many in range(1, 5):
            box = [(-k, 9 * k) for k in range(many)]
            self.assertEqual(self.found([], [], box, 7, 1, 1), [(box, ("full", []))])
            self.assertEqual(self.found([], [], box, 7, 99, 300), [(box, ("full", []))])

    def test_out_by_the_shaves(self):
        wanted = [([(6, 9)], ("out", 0, [(6, 9), (5, 5), (1, 4)]))]
        self.check(("x = 5",), [(6, 9)], 1, 1, 1, wanted)
        # The spans are those of the nodes up to the row's alone.
        self.check(("x = 5", "let a = x * x", "x >= 0"), [(6, 9)], 1, 1, 1, wanted)
        self.check(("x >= 5",), [(2, 4)], 1, 1, 1, [([(2, 4)], ("out", 0, [(2, 4), (5, 5), (-3, -1)]))])
        # Of two rows that bar all of the box the first.
        self.check(("x >= 5", "x >= 6"), [(2, 4)], 1, 1, 1, [([(2, 4)], ("out", 0, [(2, 4), (5, 5), (-3, -1)]))])
        self.check(
            ("x >= 3", "x >= 6"), [(3, 4)], 1, 1, 1, [([(3, 4)], ("out", 1, [(3, 4), (3, 3), (0, 1), (6, 6), (-3, -2)]))],
        )

    def test_out_by_the_shaves_behind_cuts(self):
        # The first row shaves to (7, 9), all of which the second one bars.
        self.check(("x = 8", "2 >= x"), [(0, 20)], 1, 1, 1, [
            ([(0, 20)], ("cut", 0, 7, 1, 2)),
            ([(0, 7)], ("out", 0, [(0, 7), (8, 8), (-8, -1)])),
            ([(7, 20)], ("cut", 0, 9, 3, 4)),
            ([(7, 9)], ("out", 1, [(7, 9), (8, 8), (-1, 1), (2, 2), (-7, -5)])),
            ([(9, 20)], ("out", 0, [(9, 20), (8, 8), (1, 12)])),
        ])

    def test_out_by_the_worths_behind_the_shaves(self):
        box = [(0, 10), (0, 10)]
        self.check(("x + y = 10", "3 >= x", "3 >= y"), box, 1, 1, 1, [
            (box, ("cut", 0, 4, 1, 2)),
            ([(0, 4), (0, 10)], ("cut", 1, 4, 3, 4)),
            ([(4, 10), (0, 10)], ("out", 1, [(4, 10), (0, 10), (4, 20), (10, 10), (-6, 10), (3, 3), (-7, -1)])),
            ([(0, 4), (0, 4)], ("out", 0, [(0, 4), (0, 4), (0, 8), (10, 10), (-10, -2)])),
            ([(0, 4), (4, 10)], ("out", 2, [(0, 4), (4, 10), (4, 14), (10, 10), (-6, 4), (3, 3), (-1, 3), (-7, -1)])),
        ])

    def test_of_several_that_bar_it_the_first(self):
        for lines, r in (
            (("x + y = 10", "x + y = 11", "3 >= x", "3 >= y"), 0), (("x >= 0", "x + y = 10", "3 >= x", "3 >= y"), 1),
            (("x >= 0", "x + y >= 10", "x + y = 10", "3 >= x", "3 >= y"), 1),
            (("x >= 0", "y >= 0", "x + y >= 9", "3 >= x", "3 >= y"), 2),
        ):
            nodes, rows = told(*lines)
            book = self.found(nodes, rows, [(0, 10), (0, 10)], 1, 1, 1)
            self.assertEqual(book[3], ([(0, 4), (0, 4)], ("out", r, worths(nodes, [(0, 4), (0, 4)], 1)[:rows[r][1] + 1])))

    def test_full(self):
        self.check(("x >= 0",), [(0, 10)], 1, 1, 1, [([(0, 10)], ("full", [(0, 10), (0, 0), (0, 10)]))])
        self.check(("x = 5",), [(5, 5)], 1, 1, 1, [([(5, 5)], ("full", [(5, 5), (5, 5), (0, 0)]))])
        # All nodes have their spans there, those behind the rows too.
        self.check(("x >= 0", "let a = x * x"), [(0, 3)], 1, 1, 1, [([(0, 3)], ("full", [(0, 3), (0, 0), (0, 3), (0, 9)]))])
        # One row that is not sure is enough.
        self.check(("x >= 0", "x >= 1"), [(0, 3)], 1, 9, 1, [([(0, 3)], SMALL)])
        self.check(("x >= 1", "x >= 0"), [(0, 3)], 1, 9, 1, [([(0, 3)], SMALL)])

    def test_one(self):
        self.check(("x = 5",), [(4, 6)], 1, 1, 1, [([(4, 6)], (
            "one", [[1]], [(5, 5)], [(4, 6), (5, 5), (-1, 1)], [(5, 5), (5, 5), (0, 0)], [[(1, 1)], [(0, 0)], [(1, 1)]],
        ))])
        # Each list has something for the nodes behind the rows, too.
        self.check(("x = 5", "let a = x * x"), [(4, 6)], 1, 1, 1, [([(4, 6)], (
            "one", [[1]], [(5, 5)], [(4, 6), (5, 5), (-1, 1), (16, 36)], [(5, 5), (5, 5), (0, 0), (25, 25)],
            [[(1, 1)], [(0, 0)], [(1, 1)], [(8, 12)]],
        ))])

    def test_one_of_two_unknowns(self):
        # The middle of (8, 13) is 10.
        self.check(("x + y = 10", "x = y"), [(8, 13), (8, 12)], 2, 1, 1, [([(8, 13), (8, 12)], (
            "one", [[1, 1], [1, -1]], [(10, 10), (10, 10)],
            [(8, 13), (8, 12), (16, 25), (20, 20), (-4, 5), (-4, 5)],
            [(10, 10), (10, 10), (20, 20), (20, 20), (0, 0), (0, 0)],
            [[(2, 2), (0, 0)], [(0, 0), (2, 2)], [(2, 2), (2, 2)], [(0, 0), (0, 0)], [(2, 2), (2, 2)], [(2, 2), (-2, -2)]],
        ))])

    def test_one_comes_ahead_of_small(self):
        book = self.found(*told("x = 5"), [(4, 6)], 1, 2, 1)
        self.assertEqual(book[0][1][0], "one")

    def test_small(self):
        self.check(("x ^ 2 = 2",), [(1, 2)], 1, 1, 1, [([(1, 2)], SMALL)])
        for fine, wanted in ((1, None), (9, None), (10, SMALL), (11, SMALL), (FIFTEEN, SMALL)):
            book = self.found(*told("x * y >= 1"), [(0, 8), (0, 10)], 1, fine, 1)
            self.assertEqual(book[0][1] if wanted else book[0][1][0], wanted or "cut")

    def test_boxes_of_one_number(self):
        for lines, word in (
            (("x = 5",), "full"), (("x = 6",), "out"), (("x >= 5",), "full"), (("3 * x = 15",), "full"),
            (("1/3 * x = 5/3",), "small"),
        ):
            book = self.found(*told(*lines), [(5, 5)], 1, 1, 1)
            self.assertEqual([fate[0] for box, fate in book], [word], lines)

    def test_boxes_of_one_step(self):
        for lines, word in (
            (("x = 5",), "small"), (("x = 6",), "small"), (("x = 7",), "out"), (("x >= 5",), "full"), (("x >= 6",), "small"),
            (("x >= 7",), "out"), (("x * x = 30",), "small"),
        ):
            for looks in (1, 2, 300):
                book = self.found(*told(*lines), [(5, 6)], 1, 1, looks)
                self.assertEqual([fate[0] for box, fate in book], [word], lines)


class Cuts(SearchCase):
    def test_several_of_one_row(self):
        self.check(("x = 5",), [(0, 10)], 1, 1, 1, [
            ([(0, 10)], ("cut", 0, 4, 1, 2)),
            ([(0, 4)], ("out", 0, [(0, 4), (5, 5), (-5, -1)])),
            ([(4, 10)], ("cut", 0, 6, 3, 4)),
            ([(4, 6)], (
                "one", [[1]], [(5, 5)], [(4, 6), (5, 5), (-1, 1)], [(5, 5), (5, 5), (0, 0)], [[(1, 1)], [(0, 0)], [(1, 1)]],
            )),
            ([(6, 10)], ("out", 0, [(6, 10), (5, 5), (1, 5)])),
        ])

    def test_several_of_several_rows(self):
        self.check_entries(("x + y = 4", "x = y + 2"), [(0, 10), (0, 10)], 1, 1, 1, [
            ((0, 10), (0, 10), ("cut", 0, 5, 1, 2)),
            ((0, 5), (0, 10), ("cut", 1, 5, 3, 4)),
            ((5, 10), (0, 10), ("out", 0)),
            ((0, 5), (0, 5), ("cut", 0, 1, 5, 6)),
            ((0, 5), (5, 10), ("out", 0)),
            ((0, 1), (0, 5), ("out", 1)),
            ((1, 5), (0, 5), ("cut", 1, 4, 7, 8)),
            ((1, 5), (0, 4), WAITS),
            ((1, 5), (4, 5), ("out", 1)),
        ])

    def test_the_spans_of_what_is_thrown(self):
        nodes, rows = told("x + y = 4", "x = y + 2")
        book = self.found(nodes, rows, [(0, 10), (0, 10)], 1, 1, 1)
        for number in (2, 4, 5, 8):
            box, (word, r, spans) = book[number]
            self.assertEqual(spans, worths(nodes, box, 1)[:rows[r][1] + 1])

    def test_at_the_middle(self):
        # Nothing is shaved off: what the row asks for is narrowed by less than one step.
        for box, k, place in (
            ([(0, 8), (0, 8)], 0, 4), ([(0, 4), (0, 9)], 1, 4), ([(0, 9), (0, 9)], 0, 4), ([(0, 8), (0, 9)], 1, 4),
            ([(0, 9), (0, 8)], 0, 4), ([(0, 2), (0, 3)], 1, 1), ([(0, 1), (0, 2)], 1, 1), ([(-5, 0), (-4, 0)], 0, -3),
            ([(-5, 0), (-6, 0)], 1, -3), ([(-7, 0), (-7, 0)], 0, -4), ([(-1, 2), (-9, 4)], 1, -3),
        ):
            parts = [[span if j == k else old for j, old in enumerate(box)] for span in ((box[k][0], place), (place, box[k][1]))]
            self.check_entries(("x * y >= 1",), box, 1, 1, 1, [
                (*box, ("cut", k, place, 1, 2)), (*parts[0], WAITS), (*parts[1], WAITS),
            ])

    def test_three_and_four_unknowns(self):
        for box, k in (([(0, 8), (0, 9), (0, 9)], 1), ([(0, 8), (0, 8), (0, 8), (0, 8)], 0), ([(0, 3), (0, 3), (0, 3), (0, 4)], 3)):
            lines = ("x * y * z >= 1",) if len(box) == 3 else ("x * y * z * u >= 1",)
            book = self.found(*told(*lines), box, 1, 1, 1)
            self.assertEqual([fate[:3] for own, fate in book], [("cut", k, box[k][1] // 2), WAITS, WAITS])


class WaitsAgain(SearchCase):
    def test_just_at_three_fourths_and_just_above(self):
        # What is left of 16 is 12: three fourths.
        left = [((0, 16), ("cut", 0, 12, 1, 2)), ((0, 12), WAITS), ((12, 16), ("out", 0))]
        self.check_entries(("11 >= x",), [(0, 16)], 1, 1, 1, left)
        self.check_entries(("12 >= x",), [(0, 16)], 1, 1, 1, [
            ((0, 16), ("cut", 0, 13, 1, 2)), ((0, 13), ("cut", 0, 6, 3, 4)), ((13, 16), ("out", 0)), ((0, 6), WAITS),
            ((6, 13), WAITS),
        ])
        # In the next look the box that the look begins with is another one.
        self.check_entries(("11 >= x",), [(0, 16)], 1, 1, 2, [
            left[0], ((0, 12), ("cut", 0, 6, 3, 4)), left[2], ((0, 6), WAITS), ((6, 12), WAITS),
        ])

    def test_the_sum_of_the_widths_counts(self):
        box = [(0, 16), (0, 16)]
        self.check_entries(("7 >= x", "let a = y"), box, 1, 1, 1, [
            (*box, ("cut", 0, 8, 1, 2)), ((0, 8), (0, 16), WAITS), ((8, 16), (0, 16), ("out", 0)),
        ])
        self.check_entries(("8 >= x", "let a = y"), box, 1, 1, 1, [
            (*box, ("cut", 0, 9, 1, 2)), ((0, 9), (0, 16), ("cut", 1, 8, 3, 4)), ((9, 16), (0, 16), ("out", 0)),
            ((0, 9), (0, 8), WAITS), ((0, 9), (8, 16), WAITS),
        ])

    def test_small_comes_ahead_of_it(self):
        self.check_entries(("11 >= x",), [(0, 16)], 1, 12, 1, [
            ((0, 16), ("cut", 0, 12, 1, 2)), ((0, 12), SMALL), ((12, 16), ("out", 0)),
        ])


class WhichEntry(SearchCase):
    def test_look_by_look(self):
        lines = ("x >= 3",)
        cuts = {0: ("cut", 0, 2, 1, 2), 2: ("cut", 0, 6, 3, 4), 3: ("cut", 0, 4, 5, 6), 5: ("cut", 0, 3, 7, 8)}
        boxes = [(0, 10), (0, 2), (2, 10), (2, 6), (6, 10), (2, 4), (4, 6), (2, 3), (3, 4)]
        # Each look's own: first the entries it settles, in order. Of 3 and 4, which are as wide, 3 is the first.
        steps = (
            (), ((0, cuts[0]), (1, ("out", 0)), (2, cuts[2])), ((3, cuts[3]),), ((4, ("full",)),), ((5, cuts[5]),),
            ((6, ("full",)),), ((7, SMALL),), ((8, ("full",)),), (), (),
        )
        fates = {}
        for looks, step in enumerate(steps):
            fates.update(step)
            known = 1 + max([fate[4] for fate in fates.values() if fate[0] == "cut"], default=0)
            self.check_entries(lines, [(0, 10)], 1, 1, looks, [(boxes[n], fates.get(n, WAITS)) for n in range(known)])
        self.check_entries(lines, [(0, 10)], 1, 1, 300, [(boxes[n], fates[n]) for n in range(9)])

    def test_of_several_that_are_as_wide_the_least_number(self):
        box = [(0, 8), (0, 8)]
        self.check_entries(("x * y >= 1",), box, 1, 1, 3, [
            (*box, ("cut", 0, 4, 1, 2)), ((0, 4), (0, 8), ("cut", 1, 4, 3, 4)), ((4, 8), (0, 8), ("cut", 1, 4, 5, 6)),
            ((0, 4), (0, 4), WAITS), ((0, 4), (4, 8), WAITS), ((4, 8), (0, 4), WAITS), ((4, 8), (4, 8), WAITS),
        ])

    def test_the_widest_goes_ahead_of_the_least_number(self):
        # (0, 9) is cut into (0, 4) and (4, 9): the second one is wider.
        book = self.found(*told("let a = y", "x * x >= 1/2"), [(0, 9), (0, 1)], 1, 1, 2)
        self.assertEqual([fate[0] for box, fate in book], ["cut", "waits", "full"])
        book = self.found(*told("x * y >= 1"), [(0, 9), (0, 1)], 1, 1, 2)
        self.assertEqual([(box[0], fate[0]) for box, fate in book][:3], [((0, 9), "cut"), ((0, 4), "waits"), ((4, 9), "cut")])

    def test_the_widest_span_counts_not_the_sum(self):
        # Behind two looks there wait boxes of 5 and 8, of 5 and 4, and of 4 and 4.
        book = self.found(*told("x * y >= 1"), [(0, 9), (0, 8)], 1, 1, 2)
        self.assertEqual([(box, fate[0]) for box, fate in book], [
            ([(0, 9), (0, 8)], "cut"), ([(0, 4), (0, 8)], "cut"), ([(4, 9), (0, 8)], "waits"), ([(0, 4), (0, 4)], "waits"),
            ([(0, 4), (4, 8)], "waits"),
        ])


class LaterLooks(SearchCase):
    def test_small(self):
        self.check_entries(("x ^ 2 = 2",), [(0, 2)], 1, 1, 3, [((0, 2), ("cut", 0, 1, 1, 2)), ((0, 1), ("out", 0)), ((1, 2), SMALL)])

    def test_one(self):
        nodes, rows = told("x ^ 2 = 2")
        book = self.found(nodes, rows, [(-192, 192)], 64, 2, 60)
        self.assertEqual(book, search_otherwise(nodes, rows, [(-192, 192)], 64, 2, 60))
        self.assertEqual(book[0][1], ("cut", 0, -92, 1, 2))
        nodes, rows = told("x ^ 2 + y ^ 2 = 25", "x = y + 1")
        book = self.found(nodes, rows, [(-384, 384), (-384, 384)], 64, 16, 60)
        self.assertEqual(book, search_otherwise(nodes, rows, [(-384, 384), (-384, 384)], 64, 16, 60))
        self.assertEqual(Counter(fate[0] for box, fate in book), {"cut": 14, "out": 13, "one": 2})

    def test_an_at_least_that_is_not_sure_yet(self):
        # The box is alone for the equation by itself, but one of its points may break the at-least.
        nodes, rows = told("x = 5", "x >= 9/2")
        book = self.found(nodes, rows, [(0, 100)], 10, 1, 60)
        self.assertEqual([fate[0] for box, fate in book], ["cut", "out", "cut", "one", "out"])
        nodes, rows = told("x = 5", "x >= 5")
        book = self.found(nodes, rows, [(0, 100)], 10, 1, 60)
        self.assertEqual(book, search_otherwise(nodes, rows, [(0, 100)], 10, 1, 60))
        self.assertNotIn("one", [fate[0] for box, fate in book])


class Bounds(SearchCase):
    def test_one_and_twelve_rows(self):
        one, rows = told("x * y >= 1")
        for many in (1, 2, 12, 13):
            self.assertEqual(
                self.found(one, rows * many, [(0, 8), (0, 8)], 1, 1, 9), search_otherwise(one, rows, [(0, 8), (0, 8)], 1, 1, 9),
            )
        # Each row shaves off one step more.
        nodes, rows = told(*[f"{12 - k} >= x" for k in range(11)], "x >= 1")
        self.assertEqual(len(rows), 12)
        book = self.found(nodes, rows, [(-4, 20)], 1, 1, 300)
        self.assertEqual(book, search_otherwise(nodes, rows, [(-4, 20)], 1, 1, 300))
        self.assertEqual(sorted({fate[1] for box, fate in book if fate[0] == "out"}), list(range(12)))

    def test_three_hundred_looks(self):
        nodes, rows = told("x * y = 1")
        box = [(0, 4000), (0, 4000)]
        book = self.found(nodes, rows, box, 1000, 1, 300)
        self.assertEqual(book, search_otherwise(nodes, rows, box, 1000, 1, 300))
        words = Counter(fate[0] for own, fate in book)
        self.assertGreater(words["waits"], 100)
        self.assertEqual(sum(words.values()), 2 * words["cut"] + 1)

    def test_each_look_is_taken(self):
        # The difference of a node with itself tells nothing, so each look cuts one entry.
        nodes, rows = told("x = x")
        for looks in (0, 1, 2, 3, 50, 299, 300, 301):
            book = self.found(nodes, rows, [(0, 2 ** 30)], 1, 1, looks)
            self.assertEqual(len(book), 2 * looks + 1)
            words = Counter(fate[0] for own, fate in book)
            self.assertEqual((words["cut"], words["waits"]), (looks, looks + 1))

    def test_more_looks_begin_like_fewer(self):
        nodes, rows = told("x ^ 2 + y ^ 2 = 25", "x * y >= 12")
        before = self.found(nodes, rows, [(-60, 60), (-60, 60)], 10, 1, 0)
        for looks in range(1, 40):
            book = self.found(nodes, rows, [(-60, 60), (-60, 60)], 10, 1, looks)
            self.assertGreaterEqual(len(book), len(before))
            for old, new in zip(before, book):
                self.assertEqual(old[0], new[0])
                if old[1] != WAITS:
                    self.assertEqual(old[1], new[1])
            before = book

    def test_nothing_waits_where_looks_are_left(self):
        for lines, answers in TASKS[:22]:
            nodes, rows, box = asked(lines, 16)
            books = [self.found(nodes, rows, box, 16, 4, looks) for looks in (299, 300)]
            self.assertNotIn(WAITS, [fate for own, fate in books[0]], lines)
            self.assertEqual(books[0], books[1])

    def test_ends_of_fifteen_figures(self):
        for lines in (("x = 5",), ("x ^ 2 = 2",), ("x * y = 1", "x + y = 3"), ("x * y >= x + y",)):
            nodes, rows = told(*lines)
            box = [(-FIFTEEN, FIFTEEN + 1)] * (2 if "y" in lines[0] else 1)
            self.found(nodes, rows, box, 1000000, FIFTEEN, 20)
            book = self.found(nodes, rows, box, 1000000, 1, 20)
            self.assertGreater(len(book), 4)

    def test_a_box_without_spans(self):
        nodes = [("number", 1, 1), ("number", 1, 3), ("minus", 1, 1)]
        for rows, wanted in (
            ([], ("full", [(1, 1), (0, 1), (-1, 1)])), ([("zero", 0)], ("out", 0, [(1, 1)])), ([("zero", 2)], SMALL),
        ):
            self.assertEqual(self.found(nodes, rows, [], 1, 1, 1), [([], wanted)])

    def test_fine_of_nought(self):
        # Somewhat beyond its bound nothing is refused: a step is cut at its low end.
        book = self.found(*told("x ^ 2 = 2"), [(1, 2)], 1, 0, 1)
        self.assertEqual(book, [([(1, 2)], ("cut", 0, 1, 1, 2)), ([(1, 1)], WAITS), ([(1, 2)], WAITS)])


class ByChance(SearchCase):
    def test_held_against_one_reckoned_otherwise(self):
        chance = random.Random(27)
        words = Counter()
        for number in range(180):
            given = searched_by_chance(chance)
            book = self.found(*given)
            self.assertEqual(book, search_otherwise(*given), given)
            words.update(fate[0] for box, fate in book)
        self.assertEqual(len(words), 6, words)

    def test_known_tasks(self):
        for lines, answers in TASKS[:22]:
            for grid, fine, looks in ((8, 1, 12), (16, 3, 60)):
                nodes, rows, box = asked(lines, grid)
                book = self.found(nodes, rows, box, grid, fine, looks)
                self.assertEqual(book, search_otherwise(nodes, rows, box, grid, fine, looks), (lines, grid))

    def test_what_is_done_to_a_book_changes_nothing(self):
        chance = random.Random(272)
        for number in range(30):
            given = searched_by_chance(chance)
            book = search(*given)
            kept = deepcopy(book)
            other = search(*given)
            for part in lists_in(other):
                part.clear()
            self.assertEqual(book, kept)
            for part in given[:3]:
                part.clear()
            self.assertEqual(book, kept)


class Leaves(unittest.TestCase):
    def check(self, book, point, grid, wanted):
        kept = deepcopy((book, point))
        answer = leaf_of(book, point, grid)
        self.assertEqual(answer, wanted, (book, point, grid))
        self.assertEqual(answer, leaf_otherwise(book, point, grid))
        self.assertIs(type(answer), type(wanted))
        self.assertEqual((book, point), kept)

    def test_a_book_of_one_entry(self):
        for lines in (("x >= 20",), ("x >= 0",), ("x = 20",)):
            book = search(*told(*lines), [(0, 10)], 1, 99, 1)
            self.assertEqual(len(book), 1)
            for point, wanted in (((0, 1), 0), ((10, 1), 0), ((1, 3), 0), ((-1, 99), None), ((991, 99), None), ((11, 1), None)):
                self.check(book, [point], 1, wanted)

    def test_points_on_cuts(self):
        # Cuts at 2, 6, 4 and 3: the leaves are 1, 7, 8, 6 and 4.
        book = search(*told("x >= 3"), [(0, 10)], 1, 1, 300)
        for half, wanted in (
            (0, 1), (1, 1), (3, 1), (4, 1), (5, 7), (6, 7), (7, 8), (8, 8), (9, 6), (12, 6), (13, 4), (20, 4),
        ):
            self.check(book, [Fraction(half, 2).as_integer_ratio()], 1, wanted)

    def test_just_beside_a_cut(self):
        far = 10 ** 29
        book = search(*told("x >= 3"), [(0, 10)], 1, 1, 300)
        self.check(book, [(2 * far, far)], 1, 1)
        self.check(book, [(2 * far + 1, far)], 1, 7)
        self.check(book, [(2 * far - 1, far)], 1, 1)
        self.check(book, [(-1, far)], 1, None)
        self.check(book, [(10 * far + 1, far)], 1, None)
        self.check(book, [(10 * far - 1, far)], 1, 4)

    def test_other_grids(self):
        book = search(*told("x = 5"), [(0, 100)], 10, 1, 9)
        self.assertEqual([fate[:3] for box, fate in book if fate[0] == "cut"], [("cut", 0, 49, ), ("cut", 0, 51)])
        for number, wanted in (
            ((49, 10), 1), ((491, 100), 3), ((5, 1), 3), ((51, 10), 3), ((511, 100), 4), ((10, 1), 4), ((101, 10), None),
            ((1001, 100), None), ((0, 1), 1), ((-1, 100), None),
        ):
            self.check(book, [number], 10, wanted)

    def test_corners(self):
        book = search(*told("x * y >= 1"), [(0, 8), (0, 8)], 1, 1, 3)
        for x, y, wanted in (
            (0, 0, 3), (8, 0, 5), (0, 8, 4), (8, 8, 6), (4, 4, 3), (4, 8, 4), (8, 4, 5), (4, 5, 4), (5, 4, 5), (5, 5, 6),
        ):
            self.check(book, [(x, 1), (y, 1)], 1, wanted)
        for x, y in ((-1, 0), (0, -1), (81, 0), (0, 81), (81, 81)):
            self.check(book, [Fraction(x, 10).as_integer_ratio(), Fraction(y, 10).as_integer_ratio()], 1, None)

    def test_by_chance(self):
        chance = random.Random(28)
        outside = 0
        for number in range(60):
            nodes, rows, box, grid, fine, looks = searched_by_chance(chance)
            book = search(nodes, rows, box, grid, fine, looks)
            wider = [(low - 2, high + 2) for low, high in box]
            for time in range(12):
                point = point_by_chance(chance, chance.choice([wider] + [own for own, fate in book]), grid)
                wanted = leaf_otherwise(book, point, grid)
                self.check(book, point, grid, wanted)
                outside += wanted is None
                if wanted is not None:
                    leaf, fate = book[wanted]
                    self.assertNotEqual(fate[0], "cut")
                    self.assertTrue(all(low <= Fraction(*number) * grid <= high for (low, high), number in zip(leaf, point)))
        self.assertGreater(outside, 20)


if __name__ == "__main__":
    unittest.main()
