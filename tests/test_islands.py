"""Points 2, 31 and 32: what a book tells, its counts, and islands."""

import random
import unittest
from copy import deepcopy
from itertools import permutations, product

from boxnarrow.islands import counts, islands, told
from boxnarrow.search import search
from tests.chance import FIFTEEN, box_by_chance, searched_by_chance
from tests.helping import check_own, check_spans, is_int, lists_in, unchanged
from tests.known import TASKS, asked, lies_in
from tests.otherwise_books import islands_otherwise

FATES = {
    "cut": ("cut", 0, 1, 1, 2), "out": ("out", 0, [(0, 1)]), "full": ("full", [(0, 1)]),
    "one": ("one", [[1]], [(0, 1)], [(0, 1)], [(0, 0)], [[(1, 1)]]), "small": ("small",), "waits": ("waits",),
}


def book_of(*words):
    """A book whose entries have fates of these kinds; each has another box."""
    return [([(number, number + 5)], deepcopy(FATES[word])) for number, word in enumerate(words)]


class Told(unittest.TestCase):
    def check(self, book, wanted):
        answer = unchanged(self, told, book)
        self.assertEqual(answer, wanted)
        self.assertIs(type(answer), list)
        for entry in answer:
            self.assertIs(type(entry), tuple)
            number, word, box = entry
            self.assertTrue(is_int(number))
            self.assertIs(type(word), str)
            check_spans(self, box, len(book[number][0]))

    def test_an_empty_book(self):
        self.check([], [])

    def test_each_fate(self):
        for word in FATES:
            wanted = [] if word in ("cut", "out") else [(0, word, [(0, 5)])]
            self.check(book_of(word), wanted)
        self.check(book_of(*FATES), [(2, "full", [(2, 7)]), (3, "one", [(3, 8)]), (4, "small", [(4, 9)]), (5, "waits", [(5, 10)])])

    def test_in_the_order_of_the_entries(self):
        for words in permutations(FATES, 4):
            wanted = [(n, word, [(n, n + 5)]) for n, word in enumerate(words) if word not in ("cut", "out")]
            self.check(book_of(*words), wanted)
        self.check(book_of("one", "one", "out", "one"), [(0, "one", [(0, 5)]), (1, "one", [(1, 6)]), (3, "one", [(3, 8)])])

    def test_boxes_of_several_spans(self):
        box = [(0, 1), (2, 3), (4, 5), (-FIFTEEN, FIFTEEN)]
        for many in range(1, 5):
            self.check([(box[:many], ("small",))], [(0, "small", box[:many])])

    def test_the_asker_s_own(self):
        book = book_of("one", "small")
        kept = deepcopy(book)
        answer = told(book)
        check_own(self, answer, book)
        for part in lists_in(answer):
            part.clear()
        self.assertEqual(book, kept)
        answer = told(book)
        for part in lists_in(book):
            part.clear()
        self.assertEqual(answer, [(0, "one", [(0, 5)]), (1, "small", [(1, 6)])])


class Counts(unittest.TestCase):
    def check(self, words, wanted):
        answer = unchanged(self, counts, book_of(*words))
        self.assertEqual(answer, wanted)
        self.assertIs(type(answer), tuple)
        self.assertEqual([is_int(many) for many in answer], [True] * 5)

    def test_an_empty_book(self):
        self.check([], (0, 0, 0, 0, 0))

    def test_each_fate(self):
        for word, wanted in (
            ("one", (1, 0, 0, 0, 0)), ("full", (0, 1, 0, 0, 0)), ("small", (0, 0, 1, 0, 0)), ("waits", (0, 0, 0, 1, 0)),
            ("out", (0, 0, 0, 0, 1)), ("cut", (0, 0, 0, 0, 0)),
        ):
            for many in (1, 2, 7):
                self.check([word] * many, tuple(many * one for one in wanted))

    def test_several(self):
        self.check(["cut"] * 9 + ["out"] * 5 + ["waits"] * 4 + ["small"] * 3 + ["full"] * 2 + ["one"], (1, 2, 3, 4, 5))
        self.check(["one", "out", "one", "cut", "small", "out", "one"], (3, 0, 1, 0, 2))

    def test_of_the_search(self):
        chance = random.Random(31)
        for number in range(30):
            nodes, rows, box, grid, fine, looks = searched_by_chance(chance)
            book = search(nodes, rows, box, grid, fine, looks)
            words = [fate[0] for own, fate in book]
            self.assertEqual(counts(book), tuple(words.count(word) for word in ("one", "full", "small", "waits", "out")))
            self.assertEqual([entry[1] for entry in told(book)], [word for word in words if word not in ("cut", "out")])


class Islands(unittest.TestCase):
    def check(self, boxes, wanted):
        answer = unchanged(self, islands, boxes)
        self.assertEqual(answer, wanted)
        self.assertEqual(islands_otherwise(boxes), wanted)
        self.assertIs(type(answer), list)
        for island in answer:
            self.assertIs(type(island), tuple)
            numbers, hull = island
            self.assertIs(type(numbers), list)
            self.assertEqual([is_int(number) for number in numbers], [True] * len(numbers))
            check_spans(self, hull, len(boxes[0]))
        return answer

    def test_no_box_and_one(self):
        self.check([], [])
        for box in ([(0, 0)], [(-3, 5)], [(0, 1), (2, 3)], [(1, 1)] * 4):
            self.check([box], [([0], box)])

    def test_two_spans(self):
        for other, touch in (
            ((5, 9), True), ((6, 9), False), ((5, 5), True), ((6, 6), False), ((-9, 0), True), ((-9, -1), False), ((0, 0), True),
            ((2, 3), True), ((-9, 9), True), ((0, 5), True), ((-1, -1), False), ((4, 6), True),
        ):
            whole = (min(0, other[0]), max(5, other[1]))
            self.check([[(0, 5)], [other]], [([0, 1], [whole])] if touch else [([0], [(0, 5)]), ([1], [other])])
            self.check([[other], [(0, 5)]], [([0, 1], [whole])] if touch else [([0], [other]), ([1], [(0, 5)])])

    def test_a_corner_and_a_face(self):
        box = [(0, 4), (0, 4)]
        for other, touch in (
            ([(4, 8), (4, 8)], True), ([(4, 8), (0, 4)], True), ([(0, 4), (-3, 0)], True), ([(-4, 0), (-4, 0)], True),
            ([(4, 4), (4, 4)], True), ([(5, 8), (4, 8)], False), ([(4, 8), (5, 8)], False), ([(5, 8), (0, 4)], False),
            ([(0, 4), (-3, -1)], False), ([(2, 3), (4, 9)], True), ([(2, 3), (5, 9)], False), ([(0, 4), (0, 4)], True),
        ):
            hull = [(min(a[0], b[0]), max(a[1], b[1])) for a, b in zip(box, other)]
            self.check([box, other], [([0, 1], hull)] if touch else [([0], box), ([1], other)])

    def test_three_and_four_unknowns(self):
        for many in (3, 4):
            box = [(0, 2)] * many
            self.check([box, [(2, 4)] * many], [([0, 1], [(0, 4)] * many)])
            for k in range(many):
                other = [(3, 4) if place == k else (2, 4) for place in range(many)]
                self.check([box, other], [([0], box), ([1], other)])

    def test_chains(self):
        self.check([[(0, 2)], [(2, 4)], [(4, 6)], [(7, 8)]], [([0, 1, 2], [(0, 6)]), ([3], [(7, 8)])])
        # The last one joins two that were apart.
        self.check([[(0, 2)], [(4, 6)], [(2, 4)]], [([0, 1, 2], [(0, 6)])])
        self.check([[(0, 2)], [(9, 9)], [(4, 6)], [(2, 4)]], [([0, 2, 3], [(0, 6)]), ([1], [(9, 9)])])
        chain = [[(2 * k, 2 * k + 2)] for k in range(9)]
        for order in (chain, chain[::-1], chain[::2] + chain[1::2], chain[1::2] + chain[::2]):
            self.check(order, [(list(range(9)), [(0, 18)])])
        self.check(chain[::2], [([k], chain[2 * k]) for k in range(5)])

    def test_hulls_that_overlap_make_no_island(self):
        # A ring around a box that touches none of it: the hull of the ring holds the box.
        ring = [[(0, 9), (0, 1)], [(0, 1), (0, 9)], [(0, 9), (8, 9)], [(8, 9), (0, 9)]]
        self.check(ring + [[(4, 5), (4, 5)]], [([0, 1, 2, 3], [(0, 9), (0, 9)]), ([4], [(4, 5), (4, 5)])])
        self.check([[(4, 5), (4, 5)]] + ring, [([0], [(4, 5), (4, 5)]), ([1, 2, 3, 4], [(0, 9), (0, 9)])])

    def test_two_alike(self):
        self.check([[(0, 1)], [(0, 1)]], [([0, 1], [(0, 1)])])
        self.check([[(0, 1)], [(5, 6)], [(0, 1)], [(5, 6)]], [([0, 2], [(0, 1)]), ([1, 3], [(5, 6)])])

    def test_boxes_of_one_number(self):
        self.check([[(3, 3)], [(3, 3)], [(4, 4)], [(2, 3)]], [([0, 1, 3], [(2, 3)]), ([2], [(4, 4)])])
        self.check([[(3, 3), (1, 1)], [(3, 3), (2, 2)]], [([0], [(3, 3), (1, 1)]), ([1], [(3, 3), (2, 2)])])

    def test_the_order_of_the_least_numbers(self):
        self.check([[(90, 91)], [(0, 1)], [(50, 51)], [(1, 2)], [(91, 95)]], [
            ([0, 4], [(90, 95)]), ([1, 3], [(0, 2)]), ([2], [(50, 51)]),
        ])
        many = [[(-9 * k, -9 * k)] for k in range(12)]
        self.check(many, [([k], many[k]) for k in range(12)])

    def test_all_of_three_small_spans(self):
        spans = [(low, high) for low in range(5) for high in range(low, 5)]
        for three in product(spans, repeat=3):
            boxes = [[span] for span in three]
            self.assertEqual(islands(boxes), islands_otherwise(boxes))

    def test_by_chance(self):
        chance = random.Random(32)
        several = 0
        for number in range(300):
            many = chance.randint(1, 4)
            far = chance.choice((2, 6, 20, FIFTEEN))
            boxes = [box_by_chance(chance, many, far) for time in range(chance.randint(0, 9))]
            if far == 20:
                boxes = [[(low, low + (high - low) // 6) for low, high in box] for box in boxes]
            answer = self.check(boxes, islands_otherwise(boxes))
            several += 1 < len(answer) < len(boxes)
        self.assertGreater(several, 30)

    def test_the_asker_s_own(self):
        boxes = [[(0, 1)], [(5, 6)], [(1, 2)]]
        kept = deepcopy(boxes)
        answer = islands(boxes)
        check_own(self, answer, boxes)
        for part in lists_in(answer):
            part.clear()
        self.assertEqual(boxes, kept)
        answer = islands(boxes)
        for part in lists_in(boxes):
            part.clear()
        self.assertEqual(answer, [([0, 2], [(0, 2)]), ([1], [(5, 6)])])

    def test_each_answer_in_boxes_of_just_one(self):
        for lines, answers in TASKS:
            for grid, fine, looks in ((1, 1, 100), (7, 2, 20), (64, 16, 60)):
                nodes, rows, box = asked(lines, grid)
                boxes = [entry[2] for entry in told(search(nodes, rows, box, grid, fine, looks))]
                found = islands(boxes)
                self.assertEqual(found, islands_otherwise(boxes))
                for answer in answers:
                    there = [any(lies_in(boxes[n], answer, grid) for n in numbers) for numbers, hull in found]
                    self.assertEqual(there.count(True), 1, (lines, grid, answer))


if __name__ == "__main__":
    unittest.main()
