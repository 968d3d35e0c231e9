"""Point 3, the promise of the whole: tasks with known answers, from the text to the boxes told."""

import random
import unittest
from collections import Counter
from fractions import Fraction

from boxnarrow.desk import Desk
from boxnarrow.errors import TooMuch
from boxnarrow.search import leaf_of, search
from tests.chance import bent_by_chance
from tests.helping import refused
from tests.known import (
    TASKS, WIDE_TASKS, asked, check_answers, check_entries, check_ones, check_smalls, lies_in, meets,
)
from tests.otherwise import NOTHING_TOLD, told_otherwise

SETTINGS = ((64, 16, 60), (1, 1, 300), (10, 3, 0), (10, 3, 1), (7, 2, 40), (1000, 20, 25), (1000000, 999999999, 300), (1000000, 100, 100))


def words_of(book):
    return Counter(fate[0] for box, fate in book)


class Books(unittest.TestCase):
    def check(self, lines, answers, grid, fine, looks, known):
        nodes, rows, box = asked(lines, grid)
        book = search(nodes, rows, box, grid, fine, looks)
        check_answers(self, book, grid, answers)
        check_entries(self, nodes, rows, grid, book)
        check_smalls(self, nodes, rows, grid, fine, book)
        if known:
            check_ones(self, book, grid, answers)
        return book

    def test_known_answers(self):
        words = Counter()
        for lines, answers in TASKS:
            for grid, fine, looks in SETTINGS:
                with self.subTest(lines=lines, grid=grid, fine=fine, looks=looks):
                    words += words_of(self.check(lines, answers, grid, fine, looks, True))
        self.assertEqual(len(words), 6, words)

    def test_wide_tasks(self):
        words = Counter()
        for lines, answers, others in WIDE_TASKS:
            for grid, fine, looks in SETTINGS:
                with self.subTest(lines=lines, grid=grid, fine=fine, looks=looks):
                    book = self.check(lines, answers, grid, fine, looks, False)
                    words += words_of(book)
                    fulls = [box for box, fate in book if fate[0] == "full"]
                    self.assertEqual([point for point in others if any(lies_in(box, point, grid) for box in fulls)], [])
        self.assertEqual(words["one"], 0)
        self.assertGreater(words["full"], 0)

    def test_the_leaves_cover_the_box(self):
        for lines, answers, *others in TASKS + WIDE_TASKS:
            nodes, rows, box = asked(lines, 10)
            book = search(nodes, rows, box, 10, 2, 25)
            for answer in answers:
                point = [Fraction(number).limit_denominator(10 ** 25).as_integer_ratio() for number in answer]
                if meets(nodes, rows, [Fraction(*number) for number in point]):
                    self.assertIn(book[leaf_of(book, point, 10)][1][0], ("full", "one", "small", "waits"))

    def test_waits_only_where_the_looks_were_used_up(self):
        for lines, answers, *others in TASKS + WIDE_TASKS:
            nodes, rows, box = asked(lines, 4)
            books = [search(nodes, rows, box, 4, 2, looks) for looks in range(0, 301, 50)]
            for one, other in zip(books, books[1:]):
                # Where nothing waits further looks have nothing to do; else each of them does something.
                self.assertEqual(words_of(one)["waits"] == 0, one == other, lines)

    def test_equations_made_for_a_point(self):
        chance = random.Random(3)
        ones = 0
        for number in range(60):
            nodes, rows, box, grid, point = bent_by_chance(chance, chance.choice((3, 30, 300)))
            book = search(nodes, rows, box, grid, 2, 30)
            answer = [Fraction(*number) for number in point]
            check_answers(self, book, grid, [answer])
            check_entries(self, nodes, rows, grid, book)
            ones += words_of(book)["one"]
        self.assertGreater(ones, 10)

    def test_more_boxes_told_one_than_answers_would_be_seen(self):
        # What asks for just one answer in each "one" is itself asked with an answer too few and one too many.
        nodes, rows, box = asked(["x in 0 10", "x = 5"], 1)
        book = search(nodes, rows, box, 1, 1, 9)
        for answers in ([], [(5,), (Fraction(11, 2),)], [(4,)], [(3,)]):
            with self.assertRaises(AssertionError):
                check_ones(self, book, 1, answers)


class FromTheText(unittest.TestCase):
    """The same by the desk: what it tells is read from its texts alone."""

    def boxes(self, texts):
        """Tuples of the word, the entry's number and, for each unknown, its name and ends."""
        found = []
        for text in texts:
            word, number, *spans = text.split(" ")
            found.append((word, int(number), [(name, Fraction(low), Fraction(high)) for name, low, high in zip(*[iter(spans)] * 3)]))
        return found

    def check(self, lines, answers, grid, fine, looks, known):
        desk = Desk()
        for line in lines + [f"grid {grid}", f"fine {fine}", f"looks {looks}"]:
            desk.tell(line)
        counts = dict(text.split(" ") for text in desk.tell("solve"))
        boxes = self.boxes(desk.tell("boxes"))
        names = [line.split(" ")[0] for line in lines if " in " in line]
        self.assertEqual(list(counts), ["ones", "fulls", "smalls", "waits", "outs"])
        for word, many in (("one", "ones"), ("full", "fulls"), ("small", "smalls"), ("waits", "waits")):
            self.assertEqual([box[0] for box in boxes].count(word), int(counts[many]))
        for word, number, spans in boxes:
            self.assertEqual([name for name, low, high in spans], names)
            there = [answer for answer in answers if all(low <= a <= high for a, (name, low, high) in zip(answer, spans))]
            if known and word == "one":
                self.assertEqual(len(there), 1)
        for answer in answers:
            self.assertTrue(any(all(low <= a <= high for a, (name, low, high) in zip(answer, spans)) for word, number, spans in boxes))
            if all(Fraction(a).denominator < 10 ** 9 for a in answer):
                text = " ".join(str(Fraction(a)) for a in answer)
                self.assertIn(desk.tell(f"point {text}")[0], ("full", "one", "small", "waits"))
        self.assertEqual(desk.tell("right"), ["right"])
        numbers = [int(word) for text in desk.tell("islands") for word in text.split(f" {names[0]} ")[0].split(" ")]
        self.assertEqual(sorted(numbers), [number for word, number, spans in boxes])
        if counts["fulls"] == counts["smalls"] == counts["waits"] == "0" and known:
            self.assertEqual(int(counts["ones"]), len(answers))

    def test_tasks(self):
        for lines, answers, *others in TASKS + WIDE_TASKS:
            for grid, fine, looks in SETTINGS:
                with self.subTest(lines=lines, grid=grid, fine=fine, looks=looks):
                    self.check(lines, answers, grid, fine, looks, not others)

    def test_points_that_are_no_answers(self):
        for lines, answers, others in WIDE_TASKS:
            desk = Desk()
            for line in lines + ["fine 1", "looks 300", "solve"]:
                desk.tell(line)
            for point in others:
                answer = desk.tell(" ".join(["point"] + [str(number) for number in point]))[0]
                self.assertTrue(answer in ("small", "waits") or answer.startswith("out "), (lines, point, answer))

    def test_the_names_are_the_task_s(self):
        state = NOTHING_TOLD
        desk = Desk()
        for line in ("speed in 0 3", "let half = speed * 1/2", "way in 0 9", "way = half * speed", "speed = 2"):
            answer, state = told_otherwise(state, line)
            self.assertEqual(desk.tell(line)[0].split(" ")[0], answer)
        desk.tell("solve")
        (word, number, spans), = self.boxes(desk.tell("boxes"))
        self.assertEqual((word, [name for name, low, high in spans]), ("one", ["speed", "way"]))
        self.assertEqual(desk.tell("point 2 2"), ["one"])

    def test_bounds_of_a_task(self):
        desk = Desk()
        for name in "xyzu":
            desk.tell(f"{name} in -999999999 999999999")
        for number in range(12):
            desk.tell(f"x * y * z * u >= {number}")
        refused(self, TooMuch, desk.tell, "x >= 0")
        desk.tell("looks 300")
        desk.tell("grid 1000000")
        counts = dict(text.split(" ") for text in desk.tell("solve"))
        self.assertGreater(sum(int(many) for many in counts.values()), 100)
        self.assertEqual(desk.tell("right"), ["right"])


if __name__ == "__main__":
    unittest.main()
