"""Points 2, 3, 29 and 30: right claims of spans and of slopes, and right books, whoever made them."""

import random
import unittest
from collections import Counter
from itertools import product

from boxnarrow.looker import right_book, right_slopes, right_spans
from boxnarrow.search import search
from boxnarrow.sloping import slopes
from boxnarrow.worths import worths
from tests.chance import asked_by_chance, searched_by_chance
from tests.helping import told, unchanged
from tests.known import TASKS, WIDE_TASKS, asked, check_answers, check_entries, check_ones
from tests.making import HUGE, book_by_chance, changed_book, claimed, claimed_slopes
from tests.otherwise_books import right_book_otherwise, right_slopes_otherwise, right_spans_otherwise

# A node of each kind, and the same part twice; over the box, on the grid 10.
NODES = [
    ("unknown", 0), ("unknown", 1), ("number", 1, 3), ("plus", 0, 1), ("minus", 0, 1), ("times", 0, 1), ("power", 0, 2),
    ("power", 1, 3), ("plus", 0, 0), ("minus", 1, 1), ("times", 0, 0),
]
BOX = [(-5, 10), (2, 8)]
SPANS = [
    (-5, 10), (2, 8), (3, 4), (-3, 18), (-13, 8), (-4, 8), (0, 10), (0, 6), (-10, 20), (-6, 6), (-5, 10),
]
SLOPES = [
    [(10, 10), (0, 0)], [(0, 0), (10, 10)], [(0, 0), (0, 0)], [(10, 10), (10, 10)], [(10, 10), (-10, -10)], [(2, 8), (-5, 10)],
    [(-10, 20), (0, 0)], [(0, 0), (0, 21)], [(20, 20), (0, 0)], [(0, 0), (0, 0)], [(-10, 20), (0, 0)],
]


def placed(each, place, new):
    return [*each[:place], new, *each[place + 1:]]


def narrower(span):
    """The spans that are one step narrower, at either end."""
    return [] if span[0] == span[1] else [(span[0] + 1, span[1]), (span[0], span[1] - 1)]


def moved(span):
    return [(span[0] + 1, span[1] + 1), (span[0] - 1, span[1] - 1)]


def wider(span):
    return [(span[0] - 1, span[1]), (span[0], span[1] + 1), (-HUGE, HUGE)]


class LookerCase(unittest.TestCase):
    def check(self, call, given, wanted):
        self.assertIs(unchanged(self, call, *given), wanted, given)


class Spans(LookerCase):
    def check_spans(self, spans, wanted, nodes=NODES, box=BOX, grid=10):
        self.check(right_spans, (nodes, box, grid, spans), wanted)
        if len(spans) <= len(nodes):
            self.assertIs(right_spans_otherwise(nodes, box, grid, spans), wanted)

    def test_just_right(self):
        self.assertEqual(worths(NODES, BOX, 10), SPANS)
        self.check_spans(SPANS, True)

    def test_fewer_spans_than_nodes(self):
        for many in range(len(SPANS)):
            self.check_spans(SPANS[:many], True)
        self.check_spans([], True, nodes=[])
        # What is wrong behind them is not asked for.
        self.check_spans([(-5, 10), (2, 7)], False)
        self.check_spans([(-5, 10)], True)

    def test_too_many(self):
        self.check_spans(SPANS + [(-HUGE, HUGE)], False)
        self.check_spans([(0, 0)], False, nodes=[])

    def test_one_step_too_narrow(self):
        for place, span in enumerate(SPANS):
            for new in narrower(span) + moved(span):
                self.check_spans(placed(SPANS, place, new)[:place + 1], False)
                self.check_spans(placed(SPANS, place, new), False)

    def test_wider(self):
        # No other node has these as parts.
        for place in range(3, len(SPANS)):
            for new in wider(SPANS[place]):
                self.check_spans(placed(SPANS, place, new), True)
        for new in wider(SPANS[2]):
            self.check_spans(placed(SPANS, 2, new), True)

    def test_wider_parts_ask_for_more(self):
        nodes = [("unknown", 0), ("number", 1, 3), ("plus", 0, 1), ("times", 2, 2)]
        box = [(0, 10)]
        self.assertEqual(worths(nodes, box, 10), [(0, 10), (3, 4), (3, 14), (0, 20)])
        for spans, wanted in (
            ([(0, 10), (3, 4), (3, 14), (0, 20)], True), ([(0, 11), (3, 4), (3, 14), (0, 20)], False),
            ([(0, 11), (3, 4), (3, 15), (0, 23)], True), ([(0, 11), (3, 4), (3, 15), (0, 22)], False),
            ([(-1, 10), (3, 4), (3, 14), (0, 20)], False), ([(-1, 10), (3, 4), (2, 14), (0, 20)], True),
            ([(0, 10), (2, 4), (2, 14), (0, 20)], True), ([(0, 10), (2, 4), (3, 14), (0, 20)], False),
            ([(0, 10), (3, 4), (-14, 14), (0, 20)], False), ([(0, 10), (3, 4), (-14, 14), (-20, 20)], True),
        ):
            self.check_spans(spans, wanted, nodes=nodes, box=box)

    def test_numbers_that_are_whole_steps(self):
        nodes = [("number", 1, 2)]
        for span, wanted in (((5, 5), True), ((4, 5), True), ((5, 6), True), ((4, 4), False), ((6, 6), False), ((0, 4), False)):
            self.check_spans([span], wanted, nodes=nodes)

    def test_each_kind_beside_spans_that_are_claimed(self):
        for node, due in (
            (("plus", 0, 1), (-1, 16)), (("minus", 0, 1), (-12, 5)), (("minus", 1, 0), (-5, 12)), (("times", 0, 1), (-3, 7)),
            (("power", 0, 2), (0, 5)), (("power", 0, 3), (-1, 4)), (("times", 0, 0), (-3, 5)), (("plus", 0, 0), (-6, 14)),
            (("minus", 0, 0), (-10, 10)), (("power", 1, 6), (0, 6)),
        ):
            # Claimed wider than the box, which is (-2, 5) and (4, 6).
            nodes = [("unknown", 0), ("unknown", 1), node]
            for new in narrower(due) + moved(due):
                self.check_spans([(-3, 7), (2, 9), new], False, nodes, [(-2, 5), (4, 6)])
            for new in [due] + wider(due):
                self.check_spans([(-3, 7), (2, 9), new], True, nodes, [(-2, 5), (4, 6)])

    def test_a_thousand_figures(self):
        self.check_spans([(-HUGE, HUGE)] * 2, True, box=[(0, 1), (-3, 4)])
        self.check_spans([(HUGE, HUGE)] * 2, False)
        nodes = [("unknown", 0), ("power", 0, 6), ("times", 1, 0)]
        self.check_spans([(-HUGE, HUGE), (0, HUGE ** 6), (-HUGE ** 7, HUGE ** 7)], True, nodes=nodes, box=[(0, 9)], grid=1)
        self.check_spans([(-HUGE, HUGE), (0, HUGE ** 6), (-HUGE ** 7, HUGE ** 7 - 1)], False, nodes=nodes, box=[(0, 9)], grid=1)

    def test_by_chance(self):
        chance = random.Random(29)
        for number in range(150):
            nodes, box, grid = asked_by_chance(chance)
            spans = claimed(chance, nodes, box, grid, chance.choice((0, 1, 9)))
            self.check_spans(spans, True, nodes, box, grid)
            self.check_spans(spans[:chance.randint(0, len(spans))], True, nodes, box, grid)
            for time in range(4):
                place = chance.randrange(len(spans))
                new = chance.choice(narrower(spans[place]) + moved(spans[place]) + wider(spans[place]))
                bent = placed(spans, place, new)
                self.check_spans(bent, right_spans_otherwise(nodes, box, grid, bent), nodes, box, grid)


class Slopes(LookerCase):
    def check_slopes(self, steep, wanted, nodes=NODES, box=BOX, grid=10, spans=SPANS):
        self.check(right_slopes, (nodes, box, grid, spans, steep), wanted)
        self.assertIs(right_slopes_otherwise(nodes, box, grid, spans, steep), wanted)

    def test_just_right(self):
        self.assertEqual(slopes(NODES, BOX, 10), SLOPES)
        self.check_slopes(SLOPES, True)
        self.check_slopes([], True, nodes=[], spans=[])

    def test_a_list_too_many_or_too_few(self):
        for steep in (SLOPES[:-1], SLOPES[:1], [], SLOPES + [[(-HUGE, HUGE)] * 2], SLOPES + [[]], SLOPES * 2):
            self.check_slopes(steep, False)

    def test_a_list_too_long_or_too_short(self):
        for place, slope in enumerate(SLOPES):
            for new in (slope[:1], [], slope + slope[:1], slope + [(-HUGE, HUGE)], slope * 2):
                self.check_slopes(placed(SLOPES, place, new), False)

    def test_one_step_too_narrow(self):
        for place, slope in enumerate(SLOPES):
            for k, span in enumerate(slope):
                for new in narrower(span) + moved(span):
                    self.check_slopes(placed(SLOPES, place, placed(slope, k, new)), False)

    def test_wider(self):
        for place in range(2, len(SLOPES)):
            for k, span in enumerate(SLOPES[place]):
                for new in wider(span):
                    self.check_slopes(placed(SLOPES, place, placed(SLOPES[place], k, new)), True)

    def test_wider_parts_ask_for_more(self):
        nodes = [("unknown", 0), ("power", 0, 2), ("plus", 1, 0)]
        spans = [(0, 10), (0, 10), (0, 20)]
        self.assertEqual(slopes(nodes, [(0, 10)], 10), [[(10, 10)], [(0, 20)], [(10, 30)]])
        for first, second, third, wanted in (
            ((10, 10), (0, 20), (10, 30), True), ((9, 10), (0, 20), (10, 30), False), ((9, 10), (0, 20), (9, 30), True),
            ((10, 11), (0, 20), (10, 31), False), ((10, 11), (0, 22), (10, 33), True), ((10, 11), (0, 21), (10, 33), False),
            ((10, 10), (0, 25), (10, 35), True), ((10, 10), (0, 25), (10, 34), False), ((10, 10), (-1, 20), (9, 30), True),
        ):
            self.check_slopes([[first], [second], [third]], wanted, nodes=nodes, box=[(0, 10)], spans=spans)

    def test_the_claimed_spans_count(self):
        nodes = [("unknown", 0), ("power", 0, 2), ("times", 0, 1)]
        for first, second, wanted in (
            # Of the cube by x the slope is x times (0, 20) and x squared times 10.
            ((0, 10), (0, 10), True), ((0, 11), (0, 10), False), ((0, 10), (0, 11), False), ((2, 3), (2, 3), True),
            ((-1, 10), (0, 10), False), ((0, 10), (-1, 10), False),
        ):
            spans = [first, second, (0, 99)]
            self.check_slopes([[(10, 10)], [(0, 20)], [(0, 30)]], wanted, nodes=nodes, box=[(0, 10)], spans=spans)

    def test_whether_the_spans_are_right_is_not_asked(self):
        self.check_slopes([[(10, 10)], [(4, 4)]], True, nodes=[("unknown", 0), ("power", 0, 2)], box=[(0, 10)], spans=[(2, 2), (7, 7)])

    def test_by_chance(self):
        chance = random.Random(292)
        for number in range(100):
            nodes, box, grid = asked_by_chance(chance)
            spans = claimed(chance, nodes, box, grid, chance.choice((0, 1, 9)))
            steep = claimed_slopes(chance, nodes, box, grid, spans, chance.choice((0, 1, 9)))
            self.check_slopes(steep, True, nodes, box, grid, spans)
            for time in range(4):
                place, k = chance.randrange(len(nodes)), chance.randrange(len(box))
                span = steep[place][k]
                new = chance.choice(narrower(span) + moved(span) + wider(span))
                bent = placed(steep, place, placed(steep[place], k, new))
                self.check_slopes(bent, right_slopes_otherwise(nodes, box, grid, spans, bent), nodes, box, grid, spans)


class BookCase(LookerCase):
    """Books of a task, over a box, on a grid: a test case that has this has lines, box and grid."""

    grid = 1

    def check_book(self, book, wanted, lines=None, box=None):
        nodes, rows = told(*(self.lines if lines is None else lines))
        box = self.box if box is None else box
        self.check(right_book, (nodes, rows, box, self.grid, book), wanted)
        self.assertIs(right_book_otherwise(nodes, rows, box, self.grid, book), wanted, book)

    def check_fate(self, fate, wanted, lines=None, box=None):
        """Of a book with one entry."""
        self.check_book([(list(self.box if box is None else box), fate)], wanted, lines, box)


class Entries(BookCase):
    lines = ("x * y >= 1",)
    box = [(0, 8), (0, 6)]

    def test_no_entry(self):
        self.check_book([], False)
        self.check_book([], False, lines=("let a = x + y",))

    def test_one_that_claims_nothing(self):
        for fate in (("small",), ("waits",)):
            self.check_fate(fate, True)
            # Neither is it asked how wide a small box is.
            self.check_fate(fate, True, box=[(-HUGE, HUGE), (0, HUGE)])

    def test_another_first_box(self):
        for box in (
            [(0, 8), (0, 7)], [(0, 9), (0, 6)], [(1, 8), (0, 6)], [(0, 8)], [(0, 8), (0, 6), (0, 0)], [], [(0, 6), (0, 8)],
            [(0, 8), (0, 5)], [(0, 7), (0, 6)], [(-HUGE, HUGE), (0, 6)],
        ):
            for fate in (("small",), ("waits",), ("cut", 0, 4, 1, 2), ("out", 0, [(0, 0)] * 4), ("full", [(0, 9)] * 4)):
                self.check_book([(box, fate)], False)
                self.check_book([(box, fate), ([(0, 4), (0, 6)], ("waits",)), ([(4, 8), (0, 6)], ("waits",))], False)

    def test_an_entry_too_many(self):
        for box in ([(0, 8), (0, 6)], [(0, 4), (0, 6)], [], [(0, 1)]):
            for fate in (("small",), ("waits",), ("cut", 0, 4, 1, 2), ("full", [(1, 9)] * 4)):
                self.check_book([(self.box, ("waits",)), (box, fate)], False)

    def test_books_by_the_search(self):
        nodes, rows = told(*self.lines)
        for looks in range(12):
            self.check_book(search(nodes, rows, self.box, 1, 1, looks), True)


class Cuts(BookCase):
    lines = ("x * y >= 1",)
    box = [(0, 8), (0, 6)]

    def book(self, fate=("cut", 0, 4, 1, 2), first=((0, 4), (0, 6)), second=((4, 8), (0, 6)), more=()):
        return [(list(self.box), fate), (list(first), ("waits",)), (list(second), ("small",)), *more]

    def test_right_ones(self):
        self.check_book(self.book(), True)
        # a may stand behind b.
        self.check_book(self.book(("cut", 0, 4, 2, 1), ((4, 8), (0, 6)), ((0, 4), (0, 6))), True)
        for place in range(1, 8):
            self.check_book(self.book(("cut", 0, place, 1, 2), ((0, place), (0, 6)), ((place, 8), (0, 6))), True)
        for place in range(1, 6):
            self.check_book(self.book(("cut", 1, place, 1, 2), ((0, 8), (0, place)), ((0, 8), (place, 6))), True)

    def test_k(self):
        for k in (-2, -1, 1, 2, 3, HUGE, -HUGE):
            self.check_book(self.book(("cut", k, 4, 1, 2)), False)
        # -1 and -2 are no numbers of unknowns, though Python's lists know them.
        self.check_book(self.book(("cut", -1, 3, 1, 2), ((0, 8), (0, 3)), ((0, 8), (3, 6))), False)
        self.check_book(self.book(("cut", -2, 4, 1, 2)), False)

    def test_place(self):
        for place in (0, 8, -1, 9, HUGE, -HUGE):
            low, high = min(0, place), max(8, place)
            self.check_book(self.book(("cut", 0, place, 1, 2)), False)
            self.check_book(self.book(("cut", 0, place, 1, 2), ((low, place), (0, 6)), ((place, high), (0, 6))), False)
        self.check_book(self.book(("cut", 0, 0, 1, 2), ((0, 0), (0, 6)), ((0, 8), (0, 6))), False)
        self.check_book(self.book(("cut", 0, 8, 1, 2), ((0, 8), (0, 6)), ((8, 8), (0, 6))), False)
        for place in (3, 5):
            self.check_book(self.book(("cut", 0, place, 1, 2)), False)

    def test_numbers_of_parts(self):
        for a, b in (
            (1, 1), (2, 2), (0, 2), (1, 0), (0, 0), (-2, 2), (1, -1), (-2, -1), (1, 3), (3, 2), (HUGE, 2), (1, HUGE), (-HUGE, 2),
            (1, -HUGE), (3, 4), (2, 1),
        ):
            self.check_book(self.book(("cut", 0, 4, a, b)), False)

    def test_both_parts_the_same(self):
        for box in ([(0, 4), (0, 6)], [(4, 8), (0, 6)], [(0, 8), (0, 6)]):
            self.check_book([(self.box, ("cut", 0, 4, 1, 1)), (box, ("waits",))], False)

    def test_boxes_of_parts(self):
        lower, upper = [(0, 4), (0, 6)], [(4, 8), (0, 6)]
        for box in (
            [(0, 3), (0, 6)], [(0, 5), (0, 6)], [(1, 4), (0, 6)], [(-1, 4), (0, 6)], [(0, 4), (0, 5)], [(0, 4), (1, 6)], [(0, 4)],
            [(0, 4), (0, 6), (0, 6)], [], [(0, 8), (0, 6)], [(0, 4), (0, 4)], [(0, 6), (0, 4)], [(4, 8), (0, 6)],
        ):
            self.check_book(self.book(first=box, second=upper), False)
        for box in (
            [(5, 8), (0, 6)], [(3, 8), (0, 6)], [(4, 7), (0, 6)], [(4, 9), (0, 6)], [(4, 8), (0, 7)], [(4, 8)], [], [(0, 4), (0, 6)],
            [(4, 8), (0, 6), (1, 1)], [(4, 8), (4, 8)],
        ):
            self.check_book(self.book(first=lower, second=box), False)

    def test_a_part_of_no_cut(self):
        for box in ([(0, 4), (0, 6)], [(0, 8), (0, 6)], [(9, 9), (9, 9)]):
            for fate in (("waits",), ("small",)):
                self.check_book(self.book(more=[(box, fate)]), False)

    def test_a_part_of_two_cuts(self):
        # The second and the third entry are both cut at 3 of y; the parts of one are named by the other, too.
        lower = [([(0, 4), (0, 3)], ("waits",)), ([(0, 4), (3, 6)], ("waits",))]
        upper = [([(4, 8), (0, 3)], ("waits",)), ([(4, 8), (3, 6)], ("waits",))]
        whole = (self.box, ("cut", 0, 4, 1, 2))
        first, second = [(0, 4), (0, 6)], [(4, 8), (0, 6)]
        self.check_book([whole, (first, ("cut", 1, 3, 3, 4)), (second, ("cut", 1, 3, 5, 6)), *lower, *upper], True)
        self.check_book([whole, (first, ("cut", 1, 3, 5, 6)), (second, ("cut", 1, 3, 3, 4)), *upper, *lower], True)
        for a, b in ((3, 4), (3, 6), (5, 4), (3, 5), (4, 6), (2, 6), (1, 6), (5, 2)):
            self.check_book([whole, (first, ("cut", 1, 3, 3, 4)), (second, ("cut", 1, 3, a, b)), *lower, *upper], False)

    def test_two_cuts_of_one_part_whose_box_is_due_to_both(self):
        # Both cuts of x are alike, so that the same two entries would do for both.
        box = [(0, 8), (0, 6)]
        parts = [([(0, 4), (0, 6)], ("waits",)), ([(4, 8), (0, 6)], ("waits",))]
        self.check_book([(box, ("cut", 0, 4, 2, 3)), (box, ("cut", 0, 4, 2, 3)), *parts], False)

    def test_a_part_ahead_of_its_cut(self):
        # All boxes are the ones that are due, but the second cut's parts have numbers below its own.
        self.check_book([
            (self.box, ("cut", 0, 4, 1, 4)), ([(0, 4), (0, 6)], ("waits",)), ([(4, 8), (0, 3)], ("waits",)),
            ([(4, 8), (3, 6)], ("waits",)), ([(4, 8), (0, 6)], ("cut", 1, 3, 2, 3)),
        ], False)
        self.check_book([
            (self.box, ("cut", 0, 4, 1, 3)), ([(0, 4), (0, 6)], ("waits",)), ([(4, 8), (0, 3)], ("waits",)),
            ([(4, 8), (0, 6)], ("cut", 1, 3, 2, 4)), ([(4, 8), (3, 6)], ("waits",)),
        ], False)
        self.check_book([
            (self.box, ("cut", 0, 4, 1, 3)), ([(0, 4), (0, 6)], ("waits",)), ([(4, 8), (3, 6)], ("waits",)),
            ([(4, 8), (0, 6)], ("cut", 1, 3, 4, 2)), ([(4, 8), (0, 3)], ("waits",)),
        ], False)
        self.check_book([
            (self.box, ("cut", 0, 4, 1, 2)), ([(0, 4), (0, 6)], ("waits",)), ([(4, 8), (0, 6)], ("cut", 1, 3, 4, 3)),
            ([(4, 8), (3, 6)], ("waits",)), ([(4, 8), (0, 3)], ("waits",)),
        ], True)

    def test_something_wrong_far_down(self):
        nodes, rows = told(*self.lines)
        book = search(nodes, rows, self.box, 1, 1, 12)
        last = max(number for number, (box, fate) in enumerate(book) if fate[0] == "cut")
        box, (word, k, place, a, b) = book[last]
        for fate in (("cut", k, place + 1, a, b), ("cut", 1 - k, place, a, b), ("cut", k, place, b, a), ("waits",), ("cut", k, place, a, a)):
            self.check_book(placed(book, last, (box, fate)), False)


class Outs(BookCase):
    lines = ("x >= 5", "x = 4", "x >= 0", "let a = x * x")
    box = [(0, 3)]
    # Of x, 5, x - 5, 4, x - 4, 0, x - 0, x * x.
    spans = [(0, 3), (5, 5), (-5, -2), (4, 4), (-4, -1), (0, 0), (0, 3), (0, 9)]

    def test_right_ones(self):
        self.check_fate(("out", 0, self.spans[:3]), True)
        self.check_fate(("out", 1, self.spans[:5]), True)

    def test_r(self):
        for r in (-3, -2, -1, 1, 2, 3, 4, HUGE, -HUGE):
            self.check_fate(("out", r, self.spans[:3]), False)
        for r in (-2, -1, 0, 2, 3, HUGE, -HUGE):
            self.check_fate(("out", r, self.spans[:5]), False)
        self.check_fate(("out", 0, []), False, lines=("let a = x",))
        self.check_fate(("out", 0, [(0, 3)]), False, lines=("let a = x",))
        self.check_fate(("out", -1, [(0, 3)]), False, lines=("let a = x",))

    def test_rows_that_are_met(self):
        self.check_fate(("out", 2, self.spans[:7]), False)
        self.check_fate(("out", 2, self.spans), False)

    def test_spans_too_many_or_too_few(self):
        for many in (0, 1, 2, 4, 5, 8):
            self.check_fate(("out", 0, self.spans[:many]), False)
        for many in (0, 1, 3, 4, 6, 7, 8):
            self.check_fate(("out", 1, self.spans[:many]), False)
        self.check_fate(("out", 0, self.spans + [(-9, -9)]), False)

    def test_spans_that_are_no_right_claim(self):
        for place, span in enumerate(self.spans[:3]):
            for new in narrower(span) + moved(span):
                self.check_fate(("out", 0, placed(self.spans, place, new)[:3]), False)
        self.check_fate(("out", 0, [(-HUGE, -HUGE)] * 3), False)
        # They are asked of the entry's own box.
        self.check_fate(("out", 0, self.spans[:3]), False, box=[(0, 4)])
        self.check_fate(("out", 0, self.spans[:3]), True, box=[(1, 2)])

    def test_wider_spans(self):
        for spans, wanted in (
            ([(0, 3), (5, 5), (-6, -2)], True), ([(0, 3), (5, 5), (-5, -1)], True), ([(0, 3), (5, 5), (-5, 0)], False),
            ([(0, 3), (5, 5), (-HUGE, -1)], True), ([(0, 4), (5, 5), (-5, -1)], True), ([(0, 4), (5, 5), (-5, -2)], False),
            ([(0, 5), (5, 5), (-5, 0)], False), ([(0, 3), (5, 7), (-7, -1)], True), ([(0, 3), (4, 7), (-7, -1)], True),
        ):
            self.check_fate(("out", 0, spans), wanted)

    def test_equations(self):
        for box, span, wanted in (
            ((0, 3), (-4, -1), True), ((0, 4), (-4, 0), False), ((5, 7), (1, 3), True), ((4, 7), (0, 3), False), ((4, 4), (0, 0), False),
            ((3, 5), (-1, 1), False), ((0, 3), (-4, 0), False), ((5, 7), (0, 3), False),
        ):
            self.check_fate(("out", 0, [box, (4, 4), span]), wanted, lines=("x = 4",), box=[box])
            self.check_fate(("out", 0, [box, (4, 4), span]), wanted and span[1] < 0, lines=("x >= 4",), box=[box])

    def test_a_row_whose_node_has_no_unknown(self):
        for lines, wanted in ((("1 = 2",), True), (("2 = 1",), True), (("1 >= 2",), True), (("2 >= 1",), False), (("1 = 1",), False)):
            nodes, rows = told("let a = x", *lines)
            self.check_fate(("out", 0, worths(nodes, self.box, 1)[:rows[0][1] + 1]), wanted, lines=("let a = x", *lines))

    def test_of_several_the_last_one_wrong(self):
        first = ([(0, 3)], ("cut", 0, 1, 1, 2))
        lower, upper = [(0, 1), (5, 5), (-5, -4)], [(1, 3), (5, 5), (-4, -2)]
        for one, other, wanted in (
            (lower, upper, True), (lower, upper[:2], False), (lower[:2], upper, False), (upper, lower, False), (lower, lower, False),
            (lower, self.spans[:3], True), (self.spans[:3], self.spans[:3], True), (lower, placed(upper, 2, (-3, -2)), False),
        ):
            self.check_book([first, ([(0, 1)], ("out", 0, one)), ([(1, 3)], ("out", 0, other))], wanted)


class Fulls(BookCase):
    lines = ("x >= 1", "5 >= x", "let a = x * x")
    box = [(1, 4)]
    # Of x, 1, x - 1, 5, 5 - x, x * x.
    spans = [(1, 4), (1, 1), (0, 3), (5, 5), (1, 4), (1, 16)]

    def test_right_ones(self):
        self.check_fate(("full", self.spans), True)
        self.check_fate(("full", placed(self.spans, 5, (0, 17))), True)
        self.check_fate(("full", []), False)

    def test_no_rows(self):
        self.check_fate(("full", [(1, 4), (1, 16)]), True, lines=("let a = x * x",))
        self.check_fate(("full", [(1, 4), (1, 15)]), False, lines=("let a = x * x",))
        self.check_fate(("full", [(1, 4)]), False, lines=("let a = x * x",))
        self.check_fate(("full", [(1, 4)]), True, lines=("let a = x",))
        self.check(right_book, ([], [], [(1, 4)], 1, [([(1, 4)], ("full", []))]), True)
        self.check(right_book, ([], [], [(1, 4)], 1, [([(1, 4)], ("full", [(1, 4)]))]), False)

    def test_spans_too_many_or_too_few(self):
        for many in range(len(self.spans)):
            self.check_fate(("full", self.spans[:many]), False)
        self.check_fate(("full", self.spans + [(1, 16)]), False)
        self.check_fate(("full", self.spans + [(-HUGE, HUGE)]), False)

    def test_spans_that_are_no_right_claim(self):
        for place, span in enumerate(self.spans):
            for new in narrower(span) + moved(span):
                self.check_fate(("full", placed(self.spans, place, new)), False)

    def test_rows_that_are_not_sure(self):
        self.check_fate(("full", placed(self.spans, 2, (-1, 3))), False)
        self.check_fate(("full", placed(self.spans, 4, (-1, 4))), False)
        self.check_fate(("full", placed(self.spans, 4, (0, 4))), True)
        self.check_fate(("full", placed(self.spans, 4, (0, HUGE))), True)
        for lines in (("x >= 2", "5 >= x", "let a = x * x"), ("x >= 1", "3 >= x", "let a = x * x")):
            self.check_fate(("full", worths(told(*lines)[0], self.box, 1)), False, lines=lines)

    def test_equations(self):
        for box, span, wanted in (((4, 4), (0, 0), True), ((4, 4), (0, 1), False), ((4, 4), (-1, 0), False), ((4, 5), (0, 1), False)):
            self.check_fate(("full", [box, (4, 4), span]), wanted, lines=("x = 4",), box=[box])


class Ones(BookCase):
    """The square of x is 2, on the grid 10: the turn is 3, near is (13, 16), E is (-1, 3)."""

    grid = 10
    lines = ("x ^ 2 = 2", "x >= 1")
    box = [(12, 18)]
    # Of x, x ^ 2, 2, x ^ 2 - 2, 1, x - 1.
    spans = [(12, 18), (14, 33), (20, 20), (-6, 13), (10, 10), (2, 8)]
    thin = [(15, 15), (22, 23), (20, 20), (2, 3), (10, 10), (5, 5)]
    steep = [[(10, 10)], [(24, 36)], [(0, 0)], [(24, 36)], [(0, 0)], [(10, 10)]]

    def check_one(self, wanted, lines=None, box=None, **changed):
        parts = {"turn": [[3]], "near": [(13, 16)], "spans": self.spans, "thin": self.thin, "steep": self.steep, **changed}
        self.check_fate(("one", *parts.values()), wanted, lines, box)

    def test_right(self):
        self.check_one(True)

    def test_near(self):
        for near, wanted in (
            ((13, 17), True), ((12, 16), False), ((13, 18), False), ((14, 16), False), ((13, 15), False), ((14, 17), False),
            ((11, 16), False), ((13, 19), False), ((-HUGE, HUGE), False), ((15, 15), False),
        ):
            self.check_one(wanted, near=[near])

    def test_near_of_another_length(self):
        for near in ([], [(13, 16)] * 2, [(13, 16), (0, 0)]):
            self.check_one(False, near=near)

    def test_turn_of_another_length(self):
        for turn in ([], [[]], [[3, 0]], [[3], [3]], [[3], []], [[], [3]], [[3, 3], [3, 3]]):
            self.check_one(False, turn=turn)

    def test_other_turns(self):
        # With 2 the step is (12, 17), with 4 it is (11, 17).
        for entry in (*range(-9, 15), HUGE, -HUGE):
            for near in ((13, 16), (13, 17)):
                self.check_one(entry == 3, turn=[[entry]], near=[near])

    def test_spans_too_many_or_too_few(self):
        for many in range(6):
            self.check_one(False, spans=self.spans[:many])
            self.check_one(False, thin=self.thin[:many])
            self.check_one(False, steep=self.steep[:many])
        self.check_one(False, spans=self.spans + [(2, 8)])
        self.check_one(False, thin=self.thin + [(5, 5)])
        self.check_one(False, steep=self.steep + [[(10, 10)]])

    def test_spans_that_are_no_right_claim(self):
        for place in range(6):
            for new in narrower(self.spans[place]) + moved(self.spans[place]):
                self.check_one(False, spans=placed(self.spans, place, new))
            for new in narrower(self.thin[place]) + moved(self.thin[place]):
                self.check_one(False, thin=placed(self.thin, place, new))
            for new in narrower(self.steep[place][0]) + moved(self.steep[place][0]):
                self.check_one(False, steep=placed(self.steep, place, [new]))

    def test_spans_in_each_others_place(self):
        self.check_one(False, spans=self.thin)
        # What holds over all of the box holds over its middle; but it is too wide for a near deep within.
        self.check_one(False, thin=self.spans)
        self.check_one(False, box=[(12, 17)])

    def test_slopes_of_another_length(self):
        for place in range(6):
            for new in ([], self.steep[place] * 2):
                self.check_one(False, steep=placed(self.steep, place, new))

    def test_wider_claims(self):
        # The equation's own: two steps more of F make near wider, and so do some steps more of S.
        for thin, near, wanted in (
            ((1, 3), (13, 16), True), ((-1, 3), (13, 16), False), ((-1, 3), (13, 17), True), ((2, 4), (12, 16), False),
            ((2, 4), (13, 16), False), ((-HUGE, 3), (13, 16), False),
        ):
            self.check_one(wanted, thin=placed(self.thin, 3, thin), near=[near])
        for slope, near, wanted in (
            ((24, 37), (13, 16), True), ((24, 43), (13, 16), True), ((24, 44), (13, 16), False), ((24, 44), (13, 17), False),
            ((23, 36), (13, 16), False), ((23, 36), (13, 17), False), ((-HUGE, HUGE), (13, 17), False),
        ):
            self.check_one(wanted, steep=placed(self.steep, 3, [slope]), near=[near])
        # Those that the equation has nothing of make no difference.
        self.check_one(True, spans=placed(self.spans, 5, (0, 9)), thin=placed(self.thin, 5, (0, 9)), steep=placed(self.steep, 5, [(0, 99)]))

    def test_at_leasts(self):
        self.check_one(True, spans=placed(self.spans, 5, (0, 8)))
        self.check_one(False, spans=placed(self.spans, 5, (-1, 8)))
        # That the at-least's thin worth is not sure does not count.
        self.check_one(True, thin=placed(self.thin, 5, (-1, 8)))
        lines = ("x ^ 2 = 2", "x >= 13/10")
        self.check_one(
            False, lines, spans=placed(placed(self.spans, 4, (13, 13)), 5, (-1, 5)),
            thin=placed(placed(self.thin, 4, (13, 13)), 5, (2, 2)),
        )
        lines = ("x ^ 2 = 2", "x >= 6/5")
        self.check_one(
            True, lines, spans=placed(placed(self.spans, 4, (12, 12)), 5, (0, 6)),
            thin=placed(placed(self.thin, 4, (12, 12)), 5, (3, 3)),
        )

    def test_equations_too_few_or_too_many(self):
        self.check_one(False, lines=("x ^ 2 >= 2", "x >= 1"))
        self.check_one(False, lines=("x ^ 2 = 2", "x >= 1", "x ^ 2 = 2"))
        self.check_one(False, lines=("x ^ 2 = 2", "x = 1"))
        self.check_one(False, lines=("let a = x ^ 2 - 2", "let b = x - 1"))
        self.check_one(True, lines=("x ^ 2 = 2", "x >= 1", "x >= 1"))
        # The order of the rows makes no difference, only that of the nodes.
        self.check_one(True, lines=("let a = x ^ 2 - 2", "let b = x - 1", "let c = x - 1", "x >= 1", "x ^ 2 = 2"))


class OnesOfTwo(BookCase):
    """x and y make 10 and are the same, on the grid 2."""

    grid = 2
    lines = ("x + y = 10", "x = y")
    box = [(8, 13), (8, 12)]
    # Of x, y, x + y, 10, x + y - 10, x - y.
    spans = [(8, 13), (8, 12), (16, 25), (20, 20), (-4, 5), (-4, 5)]
    thin = [(10, 10), (10, 10), (20, 20), (20, 20), (0, 0), (0, 0)]
    steep = [
        [(2, 2), (0, 0)], [(0, 0), (2, 2)], [(2, 2), (2, 2)], [(0, 0), (0, 0)], [(2, 2), (2, 2)], [(2, 2), (-2, -2)],
    ]

    def check_one(self, wanted, **changed):
        parts = {
            "turn": [[1, 1], [1, -1]], "near": [(10, 10), (10, 10)], "spans": self.spans, "thin": self.thin, "steep": self.steep,
            **changed,
        }
        self.check_fate(("one", *parts.values()), wanted)

    def test_right(self):
        self.check_one(True)

    def test_each_near(self):
        for low, high in product(range(7, 11), range(10, 15)):
            self.check_one(8 < low and high < 13, near=[(low, high), (10, 10)])
            self.check_one(8 < low and high < 12, near=[(10, 10), (low, high)])
        self.check_one(False, near=[(9, 9), (10, 10)])
        self.check_one(False, near=[(10, 10), (11, 11)])

    def test_lengths(self):
        for turn in ([[1, 1]], [[1, 1], [1]], [[1], [1, -1]], [[1, 1], [1, -1], [0, 0]], [[1, 1, 0], [1, -1, 0]], [[1, 1], [1, -1, 0]], []):
            self.check_one(False, turn=turn)
        for near in ([], [(10, 10)], [(10, 10)] * 3):
            self.check_one(False, near=near)
        for slope in ([(2, 2)], [(2, 2), (2, 2), (0, 0)], []):
            self.check_one(False, steep=placed(self.steep, 4, slope))

    def test_rows_and_columns_of_the_turn(self):
        self.check_one(False, turn=[[1, -1], [1, 1]])
        self.check_one(False, turn=[[-1, 1], [1, 1]])
        self.check_one(False, turn=[[0, 0], [0, 0]])

    def test_boxes_of_another_length(self):
        fate = ("one", [[1, 1], [1, -1]], [(10, 10), (10, 10)], self.spans, self.thin, self.steep)
        for box in (self.box[:1], self.box + [(0, 0)], [], self.box * 2):
            self.check_book([(box, fate)], False)
            whole = [(8, 20), (8, 12)]
            rest = ([(13, 20), (8, 12)], ("waits",))
            self.check_book([(whole, ("cut", 0, 13, 1, 2)), (box, fate), rest], False, box=whole)
            self.check_book([(whole, ("cut", 0, 13, 1, 2)), (self.box, fate), rest], True, box=whole)


class WholeBooks(unittest.TestCase):
    def test_books_by_the_search_are_right(self):
        chance = random.Random(30)
        for number in range(150):
            nodes, rows, box, grid, fine, looks = searched_by_chance(chance)
            book = search(nodes, rows, box, grid, fine, looks)
            self.assertIs(unchanged(self, right_book, nodes, rows, box, grid, book), True)

    def test_of_known_tasks(self):
        for lines, *more in TASKS + WIDE_TASKS:
            for grid, fine, looks in ((1, 1, 300), (64, 16, 60), (10, 2, 9), (1000000, 50, 100)):
                nodes, rows, box = asked(lines, grid)
                self.assertIs(right_book(nodes, rows, box, grid, search(nodes, rows, box, grid, fine, looks)), True)

    def test_books_made_by_chance_and_changed_ones(self):
        chance = random.Random(302)
        right = Counter()
        for number in range(150):
            nodes, rows, box, grid, fine, looks = searched_by_chance(chance)
            for book in (book_by_chance(chance, nodes, rows, box, grid), search(nodes, rows, box, grid, fine, looks)):
                for new in [book] + [changed_book(chance, book) for time in range(8)]:
                    wanted = right_book_otherwise(nodes, rows, box, grid, new)
                    self.assertIs(unchanged(self, right_book, nodes, rows, box, grid, new), wanted, (nodes, rows, box, grid, new))
                    right[wanted] += 1
        self.assertGreater(min(right[True], right[False]), 300)

    def test_a_book_for_other_rows(self):
        nodes, rows = told("x ^ 2 = 2", "x >= 0", "y >= x")
        box = [(-30, 30), (-30, 30)]
        book = search(nodes, rows, box, 10, 1, 60)
        self.assertIs(right_book(nodes, rows, box, 10, book), True)
        for other in (rows[:2], rows[::-1], [], [rows[1], rows[0], rows[2]]):
            self.assertIs(right_book(nodes, other, box, 10, book), right_book_otherwise(nodes, other, box, 10, book))
            self.assertIs(right_book(nodes, other, box, 10, book), False)
        self.assertIs(right_book(nodes, rows, box, 11, book), False)


class Answers(unittest.TestCase):
    """Of a right book, whoever made it, what is told of answers holds."""

    def check(self, nodes, rows, box, grid, book, answers, known):
        if right_book(nodes, rows, box, grid, book):
            check_answers(self, book, grid, answers)
            check_entries(self, nodes, rows, grid, book)
            if known:
                check_ones(self, book, grid, answers)
            return Counter(fate[0] for own, fate in book)
        return Counter()

    def test_books_by_chance_for_known_tasks(self):
        chance = random.Random(303)
        words = Counter()
        for lines, answers, *none in (TASKS[:22] + WIDE_TASKS[:6]) * 2:
            for grid in (10, 64, 1000):
                nodes, rows, box = asked(lines, grid)
                book = book_by_chance(chance, nodes, rows, box, grid, depth=chance.randint(3, 7))
                for new in [book] + [changed_book(chance, book) for time in range(4)]:
                    words += self.check(nodes, rows, box, grid, new, answers, not none)
        self.assertEqual(len(words), 6, words)

    def test_changed_books_of_the_search(self):
        chance = random.Random(304)
        words = Counter()
        for lines, answers, *none in TASKS[:22] + WIDE_TASKS[:6]:
            nodes, rows, box = asked(lines, 100)
            book = search(nodes, rows, box, 100, 10, 20)
            for time in range(12):
                words += self.check(nodes, rows, box, 100, changed_book(chance, book), answers, not none)
        self.assertEqual(len(words), 6, words)


if __name__ == "__main__":
    unittest.main()
