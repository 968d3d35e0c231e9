"""Points 2, 3, 25 and 26: the step by slopes, boxes that are alone, boxes brought closer."""

import random
import unittest
from fractions import Fraction
from itertools import combinations

from boxnarrow.alone import alone, closer, step
from boxnarrow.matrices import inverse
from boxnarrow.sloping import slopes
from boxnarrow.spans import deep, holds, inside, middle
from boxnarrow.worths import exacts
from tests.chance import asked_by_chance, bent_by_chance, point_by_chance
from tests.helping import check_matrix, check_spans, copied, told
from tests.otherwise import alone_otherwise, closer_otherwise, exact_otherwise, step_otherwise

# 800 figures.
FAR = 10 ** 799 + 7
NAMES = "xyzu"


def turn_by_chance(chance, many, grid):
    far = chance.choice((0, 1, 9, grid, 10 ** 300, FAR))
    return [[chance.randint(-far, far) for j in range(many)] for k in range(many)]


def any_rows_by_chance(chance):
    """A net, as many equations as there are unknowns, whatever they are, a box and a grid."""
    nodes, box, grid = asked_by_chance(chance)
    return nodes, [("zero", chance.randrange(len(nodes))) for span in box], box, grid


def with_leasts(chance, nodes, rows):
    """Puts one to three at-leasts somewhere among the rows."""
    for time in range(chance.randint(1, 3)):
        rows.insert(chance.randint(0, len(rows)), ("least", chance.randrange(len(nodes))))


def fraction_point(*numbers):
    return [Fraction(number).as_integer_ratio() for number in numbers]


def is_met(nodes, rows, point):
    worths = exacts(nodes, point)
    return all(worths[at][0] == 0 if word == "zero" else worths[at][0] >= 0 for word, at in rows)


def in_box(box, point, grid):
    return all(holds(span, number, grid) for span, number in zip(box, point, strict=True))


class AloneCase(unittest.TestCase):
    def check_step(self, nodes, rows, box, grid, turn, wanted):
        kept = (list(nodes), list(rows), list(box), copied(turn))
        answer = step(nodes, rows, box, grid, turn)
        self.assertEqual(answer, wanted, (nodes, rows, box, grid, turn))
        check_spans(self, answer, len(box))
        self.assertEqual((nodes, rows, box, turn), kept)

    def check_alone(self, nodes, rows, box, grid, wanted):
        kept = (list(nodes), list(rows), list(box))
        answer = alone(nodes, rows, box, grid)
        self.assertEqual(answer, wanted, (nodes, rows, box, grid))
        if wanted is not None:
            self.assertIs(type(answer), tuple)
            check_matrix(self, answer[0], len(box))
            check_spans(self, answer[1], len(box))
        self.assertEqual((nodes, rows, box), kept)

    def check_closer(self, nodes, rows, box, grid, rounds, wanted):
        kept = (list(nodes), list(rows), list(box))
        answer = closer(nodes, rows, box, grid, rounds)
        self.assertEqual(answer, wanted, (nodes, rows, box, grid, rounds))
        check_spans(self, answer, len(box))
        self.assertIsNot(answer, box)
        self.assertTrue(all(inside(new, old) for new, old in zip(answer, box)))
        self.assertEqual((nodes, rows, box), kept)


class Steps(AloneCase):
    def test_one_unknown(self):
        nodes, rows = told("x = 5")
        self.check_step(nodes, rows, [(0, 10)], 1, [[1]], [(5, 5)])
        # The turn is twice too great: the step goes as far beyond as it should have gone.
        self.check_step(nodes, rows, [(0, 8)], 1, [[2]], [(2, 10)])
        self.check_step(nodes, rows, [(0, 8)], 1, [[-1]], [(-5, 11)])
        self.check_step(nodes, rows, [(0, 100)], 10, [[10]], [(50, 50)])
        self.check_step(nodes, rows, [(0, 90)], 10, [[5]], [(24, 71)])

    def test_a_square(self):
        # On the grid 10: c is 15, F (2, 3), S (20, 40); 3 steps by F are (0, 1), by S (6, 12); so E is (-2, 4).
        nodes, rows = told("x ^ 2 = 2")
        self.check_step(nodes, rows, [(10, 20)], 10, [[3]], [(12, 17)])
        # E is (2, 6), and the box goes from 7 steps below c to 8 above.
        self.check_step(nodes, rows, [(8, 23)], 10, [[2]], [(15 - 1 - 5, 15 - 0 + 6)])

    def test_two_unknowns(self):
        # F is (3, 3), (-4, -4), S is 1, 2 and 3, -1: all on the grid 1, where nothing is rounded.
        nodes, rows = told("x + 2 * y = 3", "3 * x - y = 8")
        self.check_step(nodes, rows, [(0, 4), (0, 4)], 1, [[1, 0], [0, 1]], [(-5, 3), (-4, 16)])
        self.check_step(nodes, rows, [(0, 4), (0, 4)], 1, [[0, 1], [1, 0]], [(0, 12), (-5, 3)])
        # E is 2, -5 and -14, -6, the turn times F is 10 and 3.
        self.check_step(nodes, rows, [(0, 4), (0, 4)], 1, [[2, -1], [5, 3]], [(-22, 6), (-41, 39)])

    def test_nought_as_turn_leaves_the_box(self):
        chance = random.Random(25)
        for number in range(40):
            nodes, rows, box, grid, point = bent_by_chance(chance, 30)
            self.check_step(nodes, rows, box, grid, [[0] * len(box) for span in box], list(box))

    def test_the_inverse_as_turn(self):
        nodes, rows = told("x + 2 * y = 3", "3 * x - y = 8")
        # The matrix is 1, 2 and 3, -1, its inverse a seventh of 1, 2 and 3, -1: just so on the grid 7.
        turn = inverse([[7, 14], [21, -7]], 7)
        self.assertEqual(turn, [[1, 2], [3, -1]])
        for box in ([(-70, 70), (-70, 70)], [(0, 40), (-9, 3)], [(19, 19), (1, 1)], [(26, 27), (7, 10)]):
            self.check_step(nodes, rows, box, 7, turn, [(19, 19), (1, 1)])
        # Where F is no multiple of 7, what the turn makes of it is rounded.
        self.check_step(nodes, rows, [(100, 101), (55, 57)], 7, turn, [(18, 20), (0, 2)])

    def test_at_leasts_are_passed_over(self):
        lines = ["x + 2 * y = 3", "3 * x - y = 8"]
        box, turn = [(0, 40), (-9, 3)], [[3, -1], [4, 2]]
        wanted = step(*told(*lines), box, 7, turn)
        leasts = ["x >= 9", "x * y >= 0", "-5 >= y"]
        for places in ([0, 0, 0], [1, 1, 1], [2, 2, 2], [0, 1, 2], [2, 0, 1]):
            mixed = [leasts[k] for k in range(3) if places[k] == 0] + lines[:1]
            mixed += [leasts[k] for k in range(3) if places[k] == 1] + lines[1:]
            mixed += [leasts[k] for k in range(3) if places[k] == 2]
            nodes, rows = told(*mixed)
            self.check_step(nodes, rows, box, 7, turn, wanted)

    def test_the_order_of_equations_and_unknowns(self):
        nodes, rows = told("x + 2 * y = 3", "3 * x - y = 8")
        box, turn = [(0, 40), (-9, 3)], [[3, -1], [4, 2]]
        wanted = step(nodes, rows, box, 7, turn)
        # With the equations in the other order the turn's columns are in the other order, too.
        self.check_step(nodes, rows[::-1], box, 7, [[-1, 3], [2, 4]], wanted)
        nodes, rows = told("y + 2 * x = 3", "3 * y - x = 8")
        self.check_step(nodes, rows, box[::-1], 7, turn[::-1], wanted[::-1])

    def test_an_equation_twice(self):
        nodes, rows = told("x + y = 3", "x + y = 3")
        self.assertEqual(rows[0], rows[1])
        self.check_step(nodes, rows, [(0, 4), (0, 4)], 1, [[1, 0], [0, 1]], [(-1, 3), (-1, 3)])

    def test_boxes_of_one_number_and_of_one_step(self):
        nodes, rows = told("x ^ 2 = 2")
        self.check_step(nodes, rows, [(14, 14)], 10, [[3]], [(14, 15)])
        # The middle of one step is its low end.
        self.check_step(nodes, rows, [(14, 15)], 10, [[3]], [(14, 16)])
        self.check_step(nodes, rows, [(-15, -14)], 10, [[-3]], [(-15, -13)])
        self.check_step(nodes, rows, [(14, 15)], 10, [[0]], [(14, 15)])

    def test_unknowns_that_no_equation_has(self):
        nodes, rows = told("let a = x + y", "x = 5", "x = 7")
        self.check_step(nodes, rows, [(0, 10), (0, 20)], 1, [[1, 0], [0, 1]], [(5, 5), (-3, 27)])

    def test_turns_of_hundreds_of_figures(self):
        nodes, rows = told("x = 5")
        self.check_step(nodes, rows, [(0, 8)], 1, [[FAR]], [(4 + FAR - 4 * (FAR - 1), 4 + FAR + 4 * (FAR - 1))])
        self.check_step(nodes, rows, [(0, 8)], 1, [[-FAR]], [(4 - FAR - 4 * (FAR + 1), 4 - FAR + 4 * (FAR + 1))])

    def test_by_chance(self):
        chance = random.Random(251)
        for number in range(120):
            nodes, rows, box, grid, point = bent_by_chance(chance, chance.choice((1, 30, 5000)))
            chance.shuffle(rows)
            turn = turn_by_chance(chance, len(box), grid)
            self.check_step(nodes, rows, box, grid, turn, step_otherwise(nodes, rows, box, grid, turn))

    def test_any_nets_by_chance(self):
        chance = random.Random(252)
        for number in range(150):
            nodes, rows, box, grid = any_rows_by_chance(chance)
            with_leasts(chance, nodes, rows)
            turn = turn_by_chance(chance, len(box), grid)
            self.check_step(nodes, rows, box, grid, turn, step_otherwise(nodes, rows, box, grid, turn))


class StepsAndAnswers(AloneCase):
    """Each point of the box at which all equations are met lies in the box of the step, whatever the turn."""

    def test_bent_equations(self):
        chance = random.Random(253)
        for number in range(80):
            nodes, rows, box, grid, point = bent_by_chance(chance, chance.choice((0, 1, 30, 5000)))
            self.assertTrue(is_met(nodes, rows, point))
            turns = [turn_by_chance(chance, len(box), grid) for time in range(4)]
            for turn in turns:
                self.assertTrue(in_box(step(nodes, rows, box, grid, turn), point, grid), (nodes, rows, box, grid, turn))

    def test_any_nets(self):
        chance = random.Random(254)
        for number in range(120):
            nodes, box, grid = asked_by_chance(chance, weight=15)
            many = len(box)
            point = point_by_chance(chance, box, grid)
            rows = []
            for at in chance.choices(range(len(nodes)), k=many):
                worth = exact_otherwise(nodes, at, point).as_integer_ratio()
                nodes += [("number", *worth), ("minus", at, len(nodes))]
                rows.append(("zero", len(nodes) - 1))
            for time in range(4):
                turn = turn_by_chance(chance, many, grid)
                self.assertTrue(in_box(step(nodes, rows, box, grid, turn), point, grid), (nodes, rows, box, grid, turn))


class NotAlone(AloneCase):
    def check_none(self, lines, box, grid=10):
        nodes, rows = told(*lines)
        with self.subTest(lines=lines, box=box, grid=grid):
            self.check_alone(nodes, rows, box, grid, None)

    def test_too_few_and_too_many_equations(self):
        nodes, rows = told("x = y", "x + y = 4", "x = 2", "y >= 1")
        box = [(10, 30), (10, 30)]
        self.assertIsNotNone(alone(nodes, rows[:2], box, 10))
        for some in ([], rows[:1], rows[1:2], rows[3:], rows[:1] + rows[3:], rows[:3], rows, rows[:1] * 3):
            self.check_alone(nodes, some, box, 10, None)

    def test_an_at_least_does_not_stand_for_an_equation(self):
        self.check_none(("x = 2", "y >= 1"), [(10, 30), (10, 30)])
        self.check_none(("x >= 1",), [(10, 30)])

    def test_an_at_least_that_is_not_sure(self):
        for line, sure in (
            ("x >= 1", True), ("x >= 11/10", False), ("3 >= x", True), ("29/10 >= x", False), ("x * x >= 0", True),
            ("-5 >= x", False), ("x >= 5", False), ("x >= x", False), ("0 >= 0", True), ("1/3 >= 1/3", False),
        ):
            for lines in ((line, "x = 2"), ("x = 2", line), ("x >= 0", line, "x = 2"), (line, "x = 2", "x >= 0")):
                nodes, rows = told(*lines)
                with self.subTest(lines=lines):
                    self.check_alone(nodes, rows, [(10, 30)], 10, ([[10]], [(20, 20)]) if sure else None)

    def test_a_matrix_without_an_inverse(self):
        self.check_none(("x + y = 4", "x + y = 4"), [(10, 30), (10, 30)])
        self.check_none(("x + y = 4", "2 * x + 2 * y = 8"), [(10, 30), (10, 30)])
        self.check_none(("x = 2", "x = 2"), [(10, 30), (10, 30)])
        self.check_none(("x ^ 2 = 2",), [(-30, 30)])
        self.check_none(("x = x",), [(-30, 30)])
        self.check_none(("3 = 3",), [(-30, 30)])

    def test_a_span_of_the_step_that_touches_the_box_s_end(self):
        nodes, rows = told("x = 2")
        for box, found in (
            ((19, 21), True), ((20, 21), False), ((19, 20), False), ((20, 20), False), ((20, 90), False), ((19, 90), True),
            ((-90, 20), False), ((-90, 21), True),
        ):
            self.check_alone(nodes, rows, [box], 10, ([[10]], [(20, 20)]) if found else None)
        # One of several spans is enough.
        nodes, rows = told("x = 2", "y = 3", "z = 4")
        self.check_alone(nodes, rows, [(10, 50)] * 3, 10, ([[10, 0, 0], [0, 10, 0], [0, 0, 10]], [(20, 20), (30, 30), (40, 40)]))
        for box in ([(20, 50), (10, 50), (10, 50)], [(10, 50), (10, 30), (10, 50)], [(10, 50), (10, 50), (40, 50)]):
            self.check_alone(nodes, rows, box, 10, None)

    def test_none_in_the_box(self):
        self.check_none(("x = 2",), [(21, 90)])
        self.check_none(("x = 2",), [(-90, 19)])
        self.check_none(("x ^ 2 = 2",), [(15, 30)])
        self.check_none(("x ^ 2 + 1 = 0",), [(10, 30)])
        self.check_none(("x ^ 2 + y ^ 2 = 4", "x = y + 5"), [(10, 30), (10, 30)])

    def test_two_in_the_box(self):
        self.check_none(("x ^ 2 = 2",), [(-20, 30)])
        self.check_none(("( x - 2 ) * ( x - 3 ) = 0",), [(10, 40)], grid=10)
        self.check_none(("x ^ 2 + y ^ 2 = 25", "x = y + 1"), [(-50, 60), (-50, 60)])

    def test_one_on_a_face(self):
        self.check_none(("x = y", "x + y = 4"), [(20, 30), (10, 30)])
        self.check_none(("x = y", "x + y = 4"), [(10, 30), (10, 20)])
        self.check_none(("x ^ 2 = 4",), [(20, 25)])


class Alone(AloneCase):
    def test_one_unknown(self):
        # On the grid 10: c is 15, F (2, 3), S (24, 36), its middle 30, so the turn is 3; E is 10 less (7, 11).
        nodes, rows = told("x ^ 2 = 2")
        self.check_alone(nodes, rows, [(12, 18)], 10, ([[3]], [(15 - 1 - 1, 15 - 0 + 1)]))
        # Below nought the turn, -100/3, is rounded to -34: F is 25, E (-23, 19).
        self.check_alone(nodes, rows, [(-180, -120)], 100, ([[-34]], [(-150 + 8 - 7, -150 + 9 + 7)]))

    def test_one_to_four_unknowns(self):
        for many in range(1, 5):
            lines = [f"{name} + {name} ^ 2 = {k + 1}" for k, name in enumerate(NAMES[:many])]
            nodes, rows = told(*lines)
            box = [(600, 640), (990, 1010), (1290, 1310), (1550, 1570)][:many]
            found = alone(nodes, rows, box, 1000)
            self.check_alone(nodes, rows, box, 1000, alone_otherwise(nodes, rows, box, 1000))
            self.assertIsNotNone(found)
            for k in range(many):
                # The turn has each unknown's own equation alone.
                self.assertEqual([entry == 0 for entry in found[0][k]], [j != k for j in range(many)])
            self.assertTrue(holds(found[1][0], (618, 1000), 1000))

    def test_a_circle_and_a_line(self):
        nodes, rows = told("x ^ 2 + y ^ 2 = 25", "x = y + 1")
        for box, point in (([(200, 300), (150, 240)], (4, 3)), ([(-240, -150), (-300, -200)], (-3, -4))):
            found = alone(nodes, rows, box, 64)
            self.check_alone(nodes, rows, box, 64, alone_otherwise(nodes, rows, box, 64))
            self.assertTrue(in_box(found[1], fraction_point(*point), 64))

    def test_the_tuple(self):
        chance = random.Random(26)
        found = {many: 0 for many in range(1, 5)}
        for number in range(200):
            nodes, rows, box, grid, point = bent_by_chance(chance, 30)
            wanted = alone_otherwise(nodes, rows, box, grid)
            self.check_alone(nodes, rows, box, grid, wanted)
            if wanted is None:
                continue
            found[len(box)] += 1
            matrix = [[middle(span) for span in slopes(nodes, box, grid)[at]] for word, at in rows]
            self.assertEqual(wanted[0], inverse(matrix, grid))
            self.assertEqual(wanted[1], step(nodes, rows, box, grid, wanted[0]))
            self.assertTrue(all(deep(new, old) for new, old in zip(wanted[1], box)))
            self.assertTrue(in_box(wanted[1], point, grid))
        self.assertGreater(min(found.values()), 5, found)

    def test_with_at_leasts_by_chance(self):
        chance = random.Random(261)
        found = 0
        for number in range(200):
            nodes, rows, box, grid, point = bent_by_chance(chance, 30)
            with_leasts(chance, nodes, rows)
            wanted = alone_otherwise(nodes, rows, box, grid)
            self.check_alone(nodes, rows, box, grid, wanted)
            found += wanted is not None
        self.assertGreater(found, 15)

    def test_any_nets_by_chance(self):
        chance = random.Random(262)
        for number in range(200):
            nodes, rows, box, grid = any_rows_by_chance(chance)
            self.check_alone(nodes, rows, box, grid, alone_otherwise(nodes, rows, box, grid))


class OneAnswer(AloneCase):
    """In a box that is alone there is just one answer, well within it; no two points have the same worths."""

    def check_box(self, nodes, rows, box, grid, answers):
        found = alone(nodes, rows, box, grid)
        if found is None:
            return 0
        there = [point for point in answers if in_box(box, point, grid)]
        self.assertEqual(len(there), 1, (rows, box, grid))
        self.assertTrue(in_box(found[1], there[0], grid))
        self.assertTrue(all(deep(new, old) for new, old in zip(found[1], box)))
        return 1

    def test_all_spans_with_three_answers_near(self):
        nodes, rows = told("( x - 1 ) * ( x - 2 ) * ( x - 4 ) = 0")
        answers = [fraction_point(number) for number in (1, 2, 4)]
        for point in answers:
            self.assertTrue(is_met(nodes, rows, point))
        found = sum(self.check_box(nodes, rows, [span], 64, answers) for span in combinations(range(32, 296, 4), 2))
        self.assertGreater(found, 50)

    def test_all_spans_of_a_square(self):
        nodes, rows = told("x ^ 2 = 9/4", "x >= -5")
        answers = [fraction_point(Fraction(3, 2)), fraction_point(Fraction(-3, 2))]
        found = sum(self.check_box(nodes, rows, [span], 64, answers) for span in combinations(range(-160, 161, 8), 2))
        self.assertGreater(found, 50)

    def test_boxes_of_a_circle_and_a_line(self):
        nodes, rows = told("x ^ 2 + y ^ 2 = 25", "x = y + 1")
        answers = [fraction_point(4, 3), fraction_point(-3, -4)]
        chance = random.Random(265)
        found = 0
        for number in range(1500):
            around = chance.choice(((256, 192), (-192, -256)))
            box = [(place - chance.randint(-5, 100), place + chance.randint(5, 100)) for place in around]
            found += self.check_box(nodes, rows, box, 64, answers)
        self.assertGreater(found, 100)

    def test_no_two_points_with_the_same_worths(self):
        chance = random.Random(263)
        found = 0
        for number in range(150):
            nodes, rows, box, grid, point = bent_by_chance(chance, 60)
            if alone(nodes, rows, box, grid) is None:
                continue
            found += 1
            points = [point] + [point_by_chance(chance, box, grid) for time in range(4)]
            worths = {tuple(one): [exacts(nodes, one)[at] for word, at in rows] for one in points}
            for one, other in combinations(worths, 2):
                self.assertNotEqual(worths[one], worths[other], (nodes, rows, box, grid))
        self.assertGreater(found, 50)


class Closer(AloneCase):
    def test_rounds(self):
        nodes, rows = told("x ^ 2 = 2")
        box = [(1000000, 2000000)]
        wanted = list(box)
        widths = []
        for rounds in range(31):
            self.check_closer(nodes, rows, box, 1000000, rounds, wanted)
            self.assertTrue(wanted[0][0] ** 2 < 2 * 10 ** 12 < wanted[0][1] ** 2)
            widths.append(wanted[0][1] - wanted[0][0])
            found = alone_otherwise(nodes, rows, wanted, 1000000)
            wanted = wanted if found is None else found[1]
        # It falls and then stays: more rounds than help do no harm.
        self.assertEqual(widths, sorted(widths, reverse=True))
        self.assertGreater(len(set(widths)), 3)
        self.assertLess(widths[-1], 10)
        self.assertEqual(widths[-1], widths[-10])

    def test_no_rounds(self):
        for lines, box in ((("x = 2",), [(10, 30)]), (("x = 2",), [(50, 60)]), (("x = y", "x + y = 4"), [(0, 40), (0, 40)])):
            nodes, rows = told(*lines)
            self.check_closer(nodes, rows, box, 10, 0, list(box))

    def test_one_round_is_near(self):
        nodes, rows = told("x = y", "x + y = 4")
        box = [(0, 50), (10, 90)]
        self.check_closer(nodes, rows, box, 10, 1, alone(nodes, rows, box, 10)[1])

    def test_a_box_that_is_not_alone_stays(self):
        for lines, box in (
            (("x = 2",), [(20, 30)]), (("x = 2",), [(50, 60)]), (("x ^ 2 = 2",), [(-30, 30)]), (("x = 2", "x >= 9"), [(10, 30)]),
            (("x = y",), [(0, 40), (0, 40)]), (("x = y", "y = x"), [(0, 40), (0, 40)]), (("x >= 1",), [(0, 40)]),
        ):
            nodes, rows = told(*lines)
            for rounds in (0, 1, 2, 7, 30):
                self.check_closer(nodes, rows, box, 10, rounds, list(box))
            self.check_closer(nodes, [], box, 10, 3, list(box))

    def test_one_number_at_last(self):
        nodes, rows = told("x = 2")
        for rounds in (1, 2, 30):
            # The span of one number has nothing deep within it, so it is not alone any more, and stays.
            self.check_closer(nodes, rows, [(10, 30)], 10, rounds, [(20, 20)])

    def test_by_chance(self):
        chance = random.Random(264)
        closer_ones = 0
        for number in range(60):
            nodes, rows, box, grid, point = bent_by_chance(chance, chance.choice((5, 30, 1000)))
            rounds = chance.randint(0, 4)
            wanted = closer_otherwise(nodes, rows, box, grid, rounds)
            self.check_closer(nodes, rows, box, grid, rounds, wanted)
            self.assertTrue(in_box(wanted, point, grid))
            closer_ones += wanted != box
        self.assertGreater(closer_ones, 10)


class AskersOwn(AloneCase):
    LINES = ("x + x ^ 2 = y", "x + y = 4", "x >= 0")
    BOX = [(1150, 1300), (2700, 2850)]

    def asked(self):
        nodes, rows = told(*self.LINES)
        return nodes, rows, list(self.BOX), 1000

    def test_told_again(self):
        nodes, rows, box, grid = self.asked()
        turn, near = alone(nodes, rows, box, grid)
        kept = (copied(turn), list(near))
        self.assertEqual(step(nodes, rows, box, grid, turn), near)
        step(nodes, rows, box, grid, turn).clear()
        closer(nodes, rows, box, grid, 2).clear()
        closer(nodes, rows, box, grid, 0).clear()
        self.assertEqual((turn, near), kept)
        turn[0].clear()
        turn.pop()
        near.clear()
        self.assertEqual(alone(nodes, rows, box, grid), kept)
        self.assertEqual(step(nodes, rows, box, grid, kept[0]), kept[1])
        self.assertEqual(closer(nodes, rows, box, grid, 1), kept[1])
        self.assertEqual((nodes, rows, box, grid), self.asked())

    def test_a_box_that_stays_is_a_new_list(self):
        nodes, rows, box, grid = self.asked()
        for some, rounds in ((rows, 0), (rows[:1], 0), (rows[:1], 5), ([], 3)):
            answer = closer(nodes, some, box, grid, rounds)
            self.assertEqual(answer, box)
            answer.clear()
            self.assertEqual(box, self.BOX)

    def test_lists_changed_later(self):
        nodes, rows, box, grid = self.asked()
        turn = [[5, 6], [7, 8]]
        answers = [alone(nodes, rows, box, grid), step(nodes, rows, box, grid, turn), closer(nodes, rows, box, grid, 0)]
        for handed in (nodes, rows, box, turn[0], turn):
            handed.clear()
        nodes, rows, box, grid = self.asked()
        turn = [[5, 6], [7, 8]]
        self.assertEqual(answers, [alone(nodes, rows, box, grid), step(nodes, rows, box, grid, turn), self.BOX])


if __name__ == "__main__":
    unittest.main()
