"""Points 2 and 9 to 15: tasks told line by line, and what of them is refused."""

import random
import unittest

from boxnarrow import errors
from boxnarrow.tasks import Task, read
from tests.helping import check_pair, check_tuples, refused
from tests.otherwise import KEPT, NOTHING_TOLD, told_otherwise

X = ("unknown", 0)
Y = ("unknown", 1)
NOUGHT = ("number", 0, 1)
TWO = ["x in -3 3", "y in 0 1/2"]
ENDS = [((-3, 1), (3, 1)), ((0, 1), (1, 2))]
FOUR = ["x in 0 1", "y in 0 1", "z in 0 1", "u in 0 1"]
# 31 words with a weight of 16, and the same with 44 brackets that it does not need, 119 words.
SIXTEEN = " + ".join(["x"] * 16)
WITH_BRACKETS = " + ".join(["( ( ( x ) ) )"] * 12 + ["( ( x ) )"] * 4)
OTHER_BLANKS = ("\t", "\n", "\r", "\f", "\v", "\u00a0", "\u2003", "\u3000")
NO_TEXTS = (None, True, 0, 3, 1.5, b"x in 0 1", ["x in 0 1"], ("x", "in", "0", "1"), {"x in 0 1": 1}, Task())


def state(task):
    return (task.names(), task.ends(), task.nodes(), task.rows())


def letters(number):
    """A name of three letters, another one for each number below 676."""
    return "q" + chr(97 + number // 26) + chr(97 + number % 26)


def filled(many):
    """A task of the unknown x whose net has so many nodes, the others being the numbers from 100 on."""
    return read(["x in 0 1"] + [f"let {letters(number)} = {100 + number}" for number in range(many - 1)])


class TaskCase(unittest.TestCase):
    def check_kinds(self, task):
        names, ends, nodes, rows = state(task)
        self.assertEqual([type(told) for told in (names, ends)], [list, list])
        self.assertEqual({type(name) for name in names} | {str}, {str})
        self.assertEqual({type(pair) for pair in ends} | {tuple}, {tuple})
        for pair in ends:
            self.assertEqual(len(pair), 2)
            check_pair(self, pair[0])
            check_pair(self, pair[1])
        check_tuples(self, nodes)
        check_tuples(self, rows)

    def check_tell(self, task, line, wanted):
        with self.subTest(line=line):
            answer = task.tell(line)
            self.assertIs(type(answer), str)
            self.assertEqual(answer, wanted)
            self.check_kinds(task)

    def check_nodes(self, lines, nodes, rows=()):
        """Behind the two unknowns of TWO the lines put these nodes and tell these rows."""
        with self.subTest(lines=lines):
            task = read(TWO + lines)
            self.check_kinds(task)
            self.assertEqual(state(task), (["x", "y"], ENDS, [X, Y] + nodes, list(rows)))

    def check_refused(self, task, error, *lines):
        """Each line is refused with the class error, twice alike, and leaves the task as it was."""
        ahead = state(task)
        words = []
        for line in lines:
            with self.subTest(line=line):
                refusal = refused(self, error, task.tell, line)
                again = refused(self, error, task.tell, line)
                self.assertEqual(refusal.args, again.args)
                self.assertEqual(state(task), ahead)
                words.append((getattr(refusal, "word", None), getattr(again, "word", None)))
        return words

    def check_no_name(self, task, *cases):
        for line, word in cases:
            with self.subTest(line=line):
                self.assertEqual(self.check_refused(task, errors.NoName, line), [(word, word)])


class Unknowns(TaskCase):
    def test_without_lines(self):
        self.assertEqual(state(Task()), ([], [], [], []))
        self.check_kinds(Task())

    def test_one_to_four(self):
        task = Task()
        ends = (("-3", (-3, 1)), ("-1/2", (-1, 2)), ("0", (0, 1)), ("22/7", (22, 7)))
        for number, name in enumerate(("x", "speed", "z", "unknowns")):
            self.check_tell(task, f"{name} in {ends[number][0]} 999999999", "unknown")
            self.assertEqual(task.names(), ["x", "speed", "z", "unknowns"][:number + 1])
            self.assertEqual(task.ends(), [(end[1], (999999999, 1)) for end in ends[:number + 1]])
            self.assertEqual(task.nodes(), [("unknown", place) for place in range(number + 1)])
            self.assertEqual(task.rows(), [])

    def test_a_fifth(self):
        task = read(FOUR)
        self.check_refused(task, errors.TooMuch, "v in 0 1", "w in -5 5")
        self.check_refused(task, errors.NoName, "x in 0 1")
        self.check_tell(task, "let v = x", "part")

    def test_the_node_is_put_at_once(self):
        task = read(["x in 0 1", "let a = x + 7", "y in 0 1", "x = y"])
        nodes = [X, ("number", 7, 1), ("plus", 0, 1), Y, ("minus", 0, 3)]
        self.assertEqual(state(task), (["x", "y"], [((0, 1), (1, 1))] * 2, nodes, [("zero", 4)]))

    def test_ends_alike(self):
        for word, pair in (("0", (0, 1)), ("-7", (-7, 1)), ("2/3", (2, 3)), ("-2/3", (-2, 3))):
            task = Task()
            self.check_tell(task, f"x in {word} {word}", "unknown")
            self.assertEqual(task.ends(), [(pair, pair)])

    def test_the_order_of_the_ends(self):
        lines = ("x in 1 0", "x in 0 -1", "x in -1 -2", "x in 1/2 1/3", "x in -1/3 -1/2", "x in 1/2 0",
                 "x in 999999998/999999999 999999997/999999998", "x in 1/999999998 1/999999999")
        self.check_refused(Task(), errors.NoRow, *lines)
        for line in lines:
            words = line.split(" ")
            task = Task()
            self.check_tell(task, f"x in {words[3]} {words[2]}", "unknown")

    def test_ends_of_nine_figures(self):
        task = read(["x in -999999999/999999998 999999999/999999998"])
        self.assertEqual(task.ends(), [((-999999999, 999999998), (999999999, 999999998))])
        self.check_refused(Task(), errors.NoRow, "x in 0 1000000000", "x in -1000000000 0", "x in 0 1/1000000000")

    def test_ends_that_are_no_numbers(self):
        for word in ("a", "x", "01", "-0", "2/4", "3/1", "1/0", "0/2", "+1", "1.5", "1/-2", "-", "/", "1/", "/2", "(",
                     "in", "let", "=", "1e3", "\u0661", "--1", "1//2", "1_0"):
            self.check_refused(Task(), errors.NoRow, f"x in {word} 999999999", f"x in -999999999 {word}",
                               f"x in {word} {word}")

    def test_words_too_few_or_too_many(self):
        self.check_refused(
            Task(), errors.NoRow, "x in", "x in 0", "x in 0 1 2", "x in 0 1 0 1", "x in 0 1 =", "x in 0 = 1", "x in = 0",
            "in", "in 0 1", "x", "x 0 1", "x 0 in 1", "x in in 0 1", "x y in 0 1", "x in ( 0 ) 1", "x in 0 - 1",
            "x in 0 1 = 0", "x in 0 1 >= 0", "x IN 0 1", "x In 0 1", "x is 0 1",
        )

    def test_a_second_word_in_makes_no_other_kind(self):
        task = read(TWO)
        self.check_refused(task, errors.NoRow, "x in = 0", "x in >= y", "let in = x", "let in 0 1", "let in", "in in 0 1",
                           "= in 0 1", "( in 0 1", "0 in 0 1", "x in y", "x in + y = 0")


class Names(TaskCase):
    def test_how_many_letters(self):
        for name in ("a", "z", "ab", "abcdefgh", "zzzzzzzz", "inn", "lets", "e"):
            task = Task()
            self.check_tell(task, f"{name} in 0 1", "unknown")
            self.assertEqual(task.names(), [name])
            self.check_tell(task, f"{name} = {name}", "row")
            task = read(TWO)
            self.check_tell(task, f"let {name} = x", "part")
            self.check_tell(task, f"{name} = y", "row")
            self.assertEqual((task.names(), task.rows()), (["x", "y"], [("zero", 2)]))

    def test_what_is_no_name(self):
        task = read(TWO)
        for word in ("abcdefghi", "A", "Ab", "aB", "a1", "1a", "1", "-1", "a_b", "_", "a-b", "\u00e4", "a.", "(", "+", "^",
                     "=", ">=", "a\t"):
            self.check_refused(task, errors.NoRow, f"{word} in 0 1", f"let {word} = x")

    def test_kept_words(self):
        task = read(TWO)
        self.assertEqual(len(KEPT), 10)
        for word in KEPT:
            self.check_refused(task, errors.NoRow, f"{word} in 0 1", f"let {word} = x", f"{word} = 0", f"x >= {word}",
                               f"let a = {word}", f"let a = x + {word}", word)

    def test_a_name_that_stands_already(self):
        task = read(TWO + ["let a = x + y"])
        self.check_no_name(
            task, ("x in 0 1", "x"), ("x in -3 3", "x"), ("y in 0 1", "y"), ("a in 0 1", "a"), ("let a = x", "a"),
            ("let a = x + y", "a"), ("let x = 2", "x"), ("let y = x", "y"), ("let a = a", "a"), ("let x = x", "x"),
        )

    def test_a_name_that_stands_for_nothing(self):
        task = read(TWO)
        self.check_no_name(
            task, ("b = 0", "b"), ("0 = b", "b"), ("b >= b", "b"), ("x = b", "b"), ("x + y >= x * b ^ 2", "b"),
            ("( ( b ) ) = 1", "b"), ("let a = b", "b"), ("let a = x - ( y * b )", "b"), ("let a = a", "a"),
            ("let a = x + a ^ 2", "a"), ("abcdefgh = x", "abcdefgh"),
        )

    def test_several_such(self):
        task = read(TWO + ["let a = x"])
        self.check_no_name(
            task, ("b = c", "b"), ("c = b", "c"), ("x = c + b", "c"), ("x * b ^ 2 - c = d", "b"), ("x >= ( x - d ) * c", "d"),
            ("let a = b", "a"), ("let x = b + c", "x"), ("let e = d + c", "d"), ("let e = x + c * d", "c"),
            ("let e = e + d", "e"), ("let e = d + e", "d"), ("b ^ 2 + b = c", "b"), ("let a = a + b", "a"),
        )

    def test_told_later(self):
        task = read(["x in 0 1"])
        self.check_no_name(task, ("x = y", "y"), ("x = a", "a"), ("let b = a + y", "a"))
        self.check_tell(task, "y in 0 1", "unknown")
        self.check_no_name(task, ("let b = a + y", "a"))
        self.check_tell(task, "let a = x * y", "part")
        self.check_tell(task, "let b = a + y", "part")
        self.check_tell(task, "x = y", "row")
        self.check_tell(task, "x = a", "row")
        nodes = [X, Y, ("times", 0, 1), ("plus", 2, 1), ("minus", 0, 1), ("minus", 0, 2)]
        self.assertEqual((task.nodes(), task.rows()), (nodes, [("zero", 4), ("zero", 5)]))

    def test_the_name_of_a_refused_line_stands_for_nothing(self):
        task = read(["x in 0 1"])
        self.check_refused(task, errors.TooMuch, f"let a = {SIXTEEN} + x")
        self.check_refused(task, errors.NoName, "let a = x + c", "let a = a")
        self.check_refused(task, errors.NoRow, "let a = x +", "a in 1 0", "a in 0")
        self.check_no_name(task, ("a = 0", "a"), ("let b = a", "a"))
        self.check_tell(task, "let a = x + 2", "part")
        self.check_tell(task, "a = 0", "row")
        full = read(FOUR)
        self.check_refused(full, errors.TooMuch, "a in 0 1")
        self.check_no_name(full, ("a = 0", "a"))


class Parts(TaskCase):
    def test_a_name_alone(self):
        self.check_nodes(["let a = x", "let b = a", "let c = ( ( b ) )", "c = a"], [("minus", 0, 0)], [("zero", 2)])

    def test_a_number_alone(self):
        self.check_nodes(["let a = 3/4", "let b = 3/4", "let c = -3/4"], [("number", 3, 4), ("number", -3, 4)])

    def test_each_kind(self):
        self.check_nodes(["let a = x + y"], [("plus", 0, 1)])
        self.check_nodes(["let a = x - y"], [("minus", 0, 1)])
        self.check_nodes(["let a = x * y"], [("times", 0, 1)])
        for many in range(2, 7):
            self.check_nodes([f"let a = y ^ {many}"], [("power", 1, many)])

    def test_a_part_stands_for_its_node(self):
        self.check_nodes(
            ["let a = y - x", "let b = a * a", "let c = b ^ 2 + a", "x = 0"],
            [("minus", 1, 0), ("times", 2, 2), ("power", 3, 2), ("plus", 4, 2), NOUGHT, ("minus", 0, 6)], [("zero", 7)],
        )

    def test_the_order_of_nodes(self):
        self.check_nodes(["let a = x * 2 + y ^ 3 - ( 5 - y ) * 2"], [
            ("number", 2, 1), ("times", 0, 2), ("power", 1, 3), ("plus", 3, 4), ("number", 5, 1), ("minus", 6, 1),
            ("times", 7, 2), ("minus", 5, 8),
        ])
        self.check_nodes(["let a = 1 + ( 2 + ( 3 + 4 ) )"], [
            ("number", 1, 1), ("number", 2, 1), ("number", 3, 1), ("number", 4, 1), ("plus", 4, 5), ("plus", 3, 6),
            ("plus", 2, 7),
        ])
        self.check_nodes(["let a = ( ( 1 + 2 ) + 3 ) + 4"], [
            ("number", 1, 1), ("number", 2, 1), ("plus", 2, 3), ("number", 3, 1), ("plus", 4, 5), ("number", 4, 1),
            ("plus", 6, 7),
        ])
        self.check_nodes(["let a = ( 2 * 3 ) ^ 2"], [
            ("number", 2, 1), ("number", 3, 1), ("times", 2, 3), ("power", 4, 2),
        ])

    def test_what_is_none(self):
        self.check_refused(
            read(TWO), errors.NoRow, "let", "let a", "let a =", "let = x", "let a x", "let a >= x", "let a == x",
            "let a b = x", "let a + b = x", "let a = x = y", "let a = x >= y", "let a = = x", "let let = x", "let a = let",
            "let ( a ) = x", "let a = x +", "let a = ( x", "let a = x ^ 7", "let a = x y", "let x >= y", "let = 0", "let + x = 0",
            "a = let x", "Let a = x", "let a = 2/4", "let 2 = x", "let a := x", "let a = x ^ y",
        )

    def test_many_parts(self):
        # Names that put no node are not counted.
        task = read(TWO)
        for number in range(300):
            self.check_tell(task, f"let {letters(number)} = x", "part")
        self.assertEqual(task.nodes(), [X, Y])


class Rows(TaskCase):
    def test_words(self):
        self.check_nodes(["x = y"], [("minus", 0, 1)], [("zero", 2)])
        self.check_nodes(["x >= y"], [("minus", 0, 1)], [("least", 2)])

    def test_nought_on_the_right(self):
        self.check_nodes(["x = 0"], [NOUGHT, ("minus", 0, 2)], [("zero", 3)])
        self.check_nodes(["x - y >= 0"], [("minus", 0, 1), NOUGHT, ("minus", 2, 3)], [("least", 4)])

    def test_nought_on_the_left(self):
        self.check_nodes(["0 = x"], [NOUGHT, ("minus", 2, 0)], [("zero", 3)])
        self.check_nodes(["0 >= 0"], [NOUGHT, ("minus", 2, 2)], [("least", 3)])

    def test_a_node_with_itself(self):
        self.check_nodes(["x = x"], [("minus", 0, 0)], [("zero", 2)])
        self.check_nodes(
            ["let a = x * y", "a >= x * y", "x * y >= a"], [("times", 0, 1), ("minus", 2, 2)], [("least", 3)] * 2,
        )
        self.check_nodes(["1/2 = 1/2"], [("number", 1, 2), ("minus", 2, 2)], [("zero", 3)])

    def test_either_way_round(self):
        self.check_nodes(["x = y", "y = x"], [("minus", 0, 1), ("minus", 1, 0)], [("zero", 2), ("zero", 3)])

    def test_left_ahead_of_right_and_the_difference_at_last(self):
        self.check_nodes(["3 * x >= 5 + y ^ 2"], [
            ("number", 3, 1), ("times", 2, 0), ("number", 5, 1), ("power", 1, 2), ("plus", 4, 5), ("minus", 3, 6),
        ], [("least", 7)])

    def test_alike_ones(self):
        self.check_nodes(
            ["x = y", "x >= y", "x = y", "x = y"], [("minus", 0, 1)],
            [("zero", 2), ("least", 2), ("zero", 2), ("zero", 2)],
        )

    def test_without_unknowns(self):
        task = Task()
        self.check_tell(task, "1 = 2", "row")
        self.check_tell(task, "let a = 5", "part")
        self.assertEqual(state(task), ([], [], [("number", 1, 1), ("number", 2, 1), ("minus", 0, 1), ("number", 5, 1)],
                                       [("zero", 2)]))

    def test_the_twelfth_and_the_thirteenth(self):
        for line in ("x = y", "x >= y"):
            task = read(TWO + [line] * 11)
            self.check_tell(task, line, "row")
            self.check_refused(task, errors.TooMuch, "x = y", "x >= y", "x = 0", "0 >= x * y")
            self.check_refused(task, errors.NoName, "x = b")
            self.check_refused(task, errors.NoRow, "x = ")
            self.assertEqual(len(task.rows()), 12)
            self.assertEqual(task.nodes(), [X, Y, ("minus", 0, 1)])
            self.check_tell(task, "let a = 0", "part")
            self.check_tell(task, "z in 0 1", "unknown")

    def test_without_a_sign(self):
        self.check_refused(read(TWO), errors.NoRow, "x", "x + y", "0", "( x )", "x == y", "x > y", "x <= y", "x < y", "x => y",
                           "x=y", "x =y", "x>= y", "x != y", "x : y")

    def test_two_signs(self):
        self.check_refused(read(TWO), errors.NoRow, "x = y = x", "x >= y >= x", "x = y >= 0", "x >= y = 0", "x = = y",
                           "x >= = y", "x = >= y", "= x =", "( x = y ) = 0", "x = ( y = 0 )")

    def test_a_side_without_words(self):
        self.check_refused(read(TWO), errors.NoRow, "=", ">=", "x =", "x >=", "= x", ">= x", "= =")

    def test_sides_that_are_no_expressions(self):
        self.check_refused(read(TWO), errors.NoRow, "x + = y", "x = y +", "( x = y )", "( x = y", "x ) = y", "x = y )", "x y = 0",
                           "x = 2 / 3", "x = - y", "x ^ 1 = 0", "x ^ 7 = 0", "x = x ^ y", "x = 2/4", "x = ( )", "x = X")


class TheSameOnce(TaskCase):
    def test_two_names(self):
        self.check_nodes(["let a = x + y", "let b = x + y", "a = b"], [("plus", 0, 1), ("minus", 2, 2)], [("zero", 3)])

    def test_two_writings(self):
        self.check_nodes(
            ["x + y * 2 = 0", "let p = y * 2", "x + p >= 0", "( x ) + ( ( y ) * 2 ) = 0", "( x + y * 2 ) >= ( 0 )"],
            [("number", 2, 1), ("times", 1, 2), ("plus", 0, 3), NOUGHT, ("minus", 4, 5)],
            [("zero", 6), ("least", 6), ("zero", 6), ("least", 6)],
        )

    def test_brackets_that_are_needed(self):
        self.check_nodes(
            ["let a = x - y - x", "let b = x - ( y - x )", "let c = ( x - y ) - x"],
            [("minus", 0, 1), ("minus", 2, 0), ("minus", 1, 0), ("minus", 0, 4)],
        )

    def test_other_ways_round_are_other_nodes(self):
        self.check_nodes(["let a = x + y", "let b = y + x"], [("plus", 0, 1), ("plus", 1, 0)])
        self.check_nodes(["let a = x * x", "let b = x ^ 2"], [("times", 0, 0), ("power", 0, 2)])

    def test_a_difference_and_a_row(self):
        self.check_nodes(["let a = x - y", "x = y", "x - y = x - y"], [("minus", 0, 1), ("minus", 2, 2)],
                         [("zero", 2), ("zero", 3)])


class Weights(TaskCase):
    def test_sixteen_and_seventeen_in_a_part(self):
        for line in (SIXTEEN, "x ^ 6 * x ^ 6 * x ^ 4", "( x ^ 4 ) ^ 4", "( x + x ) ^ 6 - x ^ 4"):
            task = read(["x in 0 1"])
            self.check_tell(task, f"let a = {line}", "part")
            self.check_refused(task, errors.TooMuch, f"let b = {line} + x", "let b = a - x", "let b = a * 1", "let b = a ^ 2")

    def test_sixteen_and_seventeen_in_a_row(self):
        fifteen = " * ".join(["x"] * 15)
        eight = " - ".join(["x"] * 8)
        for sign in ("=", ">="):
            task = read(["x in 0 1"])
            self.check_refused(task, errors.TooMuch, f"{fifteen} * x {sign} 0", f"0 {sign} {fifteen} * x",
                               f"{eight} {sign} {eight} - x", f"{eight} - x {sign} {eight}", f"{fifteen} {sign} x + 0")
            self.check_tell(task, f"{fifteen} {sign} 0", "row")
            self.check_tell(task, f"x {sign} {fifteen}", "row")
            self.check_tell(task, f"{eight} {sign} {eight}", "row")

    def test_weights_of_names(self):
        task = read(["x in 0 1", "let a = x ^ 2", "let b = a ^ 4", "let c = b + b"])
        self.check_refused(task, errors.TooMuch, "let d = c + 1", "c = 0", "c >= c", "let d = b ^ 3", "let d = b * b * a")
        self.check_tell(task, "b = b", "row")
        self.check_tell(task, "let d = a ^ 6", "part")


class HowManyNodes(TaskCase):
    def test_by_an_unknown(self):
        task = filled(59)
        self.check_tell(task, "y in 0 1", "unknown")
        self.assertEqual(len(task.nodes()), 60)
        self.check_refused(task, errors.TooMuch, "z in 0 1")
        self.assertEqual(task.names(), ["x", "y"])

    def test_by_a_part(self):
        task = filled(59)
        self.check_refused(task, errors.TooMuch, "let a = x * 7", "let a = ( x + 100 ) ^ 2")
        self.check_tell(task, "let a = x * 101", "part")
        self.assertEqual(task.nodes()[59:], [("times", 0, 2)])
        self.check_refused(task, errors.TooMuch, "let b = 7", "let b = x + x", "let b = a ^ 2")
        self.check_tell(task, "let b = x * 101", "part")

    def test_by_a_row(self):
        task = filled(58)
        self.check_refused(task, errors.TooMuch, "x + 7 = 7", "x * 3 = 3 + x")
        self.check_tell(task, "x = 7", "row")
        self.assertEqual(task.nodes()[58:], [("number", 7, 1), ("minus", 0, 58)])
        self.check_refused(task, errors.TooMuch, "x = 8", "x = x", "7 >= x")
        self.check_tell(task, "x >= 7", "row")
        self.assertEqual(task.rows(), [("zero", 59), ("least", 59)])
        task = filled(59)
        self.check_refused(task, errors.TooMuch, "x = 7", "7 >= x")
        self.check_tell(task, "100 >= x", "row")
        self.assertEqual(task.nodes()[59:], [("minus", 1, 0)])

    def test_a_full_net_takes_what_puts_no_node(self):
        task = filled(60)
        self.check_tell(task, "let a = x", "part")
        self.check_tell(task, "let b = 150", "part")
        self.check_refused(task, errors.TooMuch, "a = b", "y in 0 1", "let c = 99")


class Bounds(TaskCase):
    def test_sides_of_119_and_of_121_words(self):
        # In a row both sides' weights make 16 at most: so 15 and 1 there.
        lines = []
        for pairs in (45, 46):
            parts = ["x"] * 15
            for pair in range(pairs):
                parts[pair % 15] = f"( {parts[pair % 15]} )"
            lines.append(" + ".join(parts))
        self.assertEqual([len(line.split(" ")) for line in lines], [119, 121])
        task = read(["x in 0 1"])
        self.check_refused(task, errors.NoRow, f"{lines[1]} = x", f"x >= {lines[1]}", f"let a = {lines[1]}")
        self.check_tell(task, f"{lines[0]} = x", "row")
        self.check_tell(task, f"x >= {lines[0]}", "row")
        self.check_tell(task, f"let a = {lines[0]}", "part")
        self.assertEqual(len(WITH_BRACKETS.split(" ")), 119)
        self.check_tell(task, f"let b = {WITH_BRACKETS}", "part")
        # Too many words and too heavy at once.
        self.check_refused(task, errors.NoRow, f"let c = {WITH_BRACKETS} + x")

    def test_both_sides_long(self):
        side = "( " * 16 + "x" + " )" * 16
        task = read(["x in 0 1"])
        long_side = " + ".join([side] * 3) + " + ( ( ( ( ( ( ( ( x ) ) ) ) ) ) ) )"
        self.assertEqual(len(long_side.split(" ")), 119)
        self.check_tell(task, f"{long_side} = {long_side}", "row")
        self.assertEqual(task.rows(), [("zero", 4)])

    def test_brackets(self):
        task = read(["x in 0 1"])
        sixteen = "( " * 16 + "x" + " )" * 16
        self.check_tell(task, f"{sixteen} = {sixteen}", "row")
        self.check_tell(task, f"let a = {sixteen}", "part")
        self.check_refused(task, errors.NoRow, f"( {sixteen} ) = 0", f"0 >= ( {sixteen} )", f"let b = ( {sixteen} )")


class TheClassThatComesFirst(TaskCase):
    def test_no_row_ahead_of_no_name(self):
        task = read(TWO)
        self.check_refused(task, errors.NoRow, "x in 1 0", "x in 0", "x in b c", "let x = b +", "let x = 2/4", "let x >= y", "b = c = d",
                           "b +", "b", "b = ", "b + = c", "b ^ 7 = c", "let b = c = d", "b > c")

    def test_no_row_ahead_of_too_much(self):
        heavy = f"{SIXTEEN} + x"
        task = read(FOUR + ["x = y"] * 12)
        self.check_refused(task, errors.NoRow, f"{heavy} = ( 0", "v in 1 0", "v in 0 2/4", "x = y = z", "x =",
                           f"let a = {heavy} +", f"{heavy} = 0 )")
        self.check_refused(filled(60), errors.NoRow, "y in 1 0", "let a = 7 +", "7 = 8 9")

    def test_no_name_ahead_of_too_much(self):
        heavy = f"{SIXTEEN} + x"
        task = read(FOUR + ["x = y"] * 12)
        self.check_no_name(
            task, ("x in 0 1", "x"), ("u in 0 1", "u"), ("x = b", "b"), (f"{heavy} = b", "b"), (f"b = {heavy}", "b"),
            (f"let x = {heavy}", "x"), (f"let a = {heavy} * b", "b"), (f"let a = b * ( {heavy} )", "b"),
        )
        self.check_no_name(filled(60), ("x in 0 1", "x"), ("let x = 7", "x"), ("let a = 7 + b", "b"), ("7 = b", "b"))

    def test_no_row_ahead_of_all(self):
        task = read(FOUR + ["x = y"] * 12)
        self.check_refused(task, errors.NoRow, "x in 2 1", f"let x = {SIXTEEN} + b +", f"{SIXTEEN} + b = c =")


class RefusedLines(TaskCase):
    def test_no_node_of_it_is_there(self):
        task = read(TWO)
        heavy = f"7 * x + 5 - ( {SIXTEEN} )"
        self.check_refused(task, errors.TooMuch, f"let a = {heavy}", f"{heavy} = 0", f"9 >= {heavy}", f"x ^ 2 + 9 = {SIXTEEN}")
        self.check_refused(task, errors.NoName, "x ^ 2 + 9 = b", "let a = 7 + b", "let x = 7")
        self.check_refused(task, errors.NoRow, "x ^ 2 + 9 = 7 +", "let a = 7 8")
        # What is put now gets the next numbers, so nothing was kept in between.
        self.check_tell(task, "let a = 9", "part")
        self.check_tell(task, "7 = a", "row")
        self.assertEqual(task.nodes(), [X, Y, ("number", 9, 1), ("number", 7, 1), ("minus", 3, 2)])
        self.assertEqual(task.rows(), [("zero", 4)])

    def test_a_refused_unknown_takes_no_number(self):
        task = read(["x in 0 1"])
        self.check_refused(task, errors.NoRow, "y in 1 0")
        self.check_refused(task, errors.NoName, "x in 0 1")
        self.check_tell(task, "y in 0 1", "unknown")
        self.assertEqual((task.names(), task.nodes()), (["x", "y"], [X, Y]))

    def test_a_refused_row_is_not_counted(self):
        task = read(TWO)
        for number in range(20):
            self.check_refused(task, errors.TooMuch, f"{SIXTEEN} = 0")
            self.check_refused(task, errors.NoName, "b = 0")
        for number in range(12):
            self.check_tell(task, "x = 0", "row")
        self.assertEqual(task.rows(), [("zero", 3)] * 12)

    def test_refused_nodes_leave_their_places(self):
        task = filled(58)
        self.check_refused(task, errors.TooMuch, "let a = 1 + 2 + 3", "1 + 2 = 3")
        self.check_tell(task, "let a = 1", "part")
        self.check_tell(task, "let b = 2", "part")
        self.assertEqual(task.nodes()[58:], [("number", 1, 1), ("number", 2, 1)])


class Blanks(TaskCase):
    LINES = ("x in 0 1", "let a = u", "u + v = v", "u >= ( v )")

    def task(self):
        return read(["u in 0 1", "v in 0 1"])

    def test_as_they_stand(self):
        for line in self.LINES:
            self.task().tell(line)

    def test_ahead_behind_and_two_in_a_row(self):
        for line in self.LINES:
            self.check_refused(self.task(), errors.NoRow, " " + line, line + " ", "  " + line, line + "  ", " " + line + " ")
            words = line.split(" ")
            for place in range(1, len(words)):
                self.check_refused(self.task(), errors.NoRow, " ".join(words[:place]) + "  " + " ".join(words[place:]))

    def test_other_blanks(self):
        for line in self.LINES:
            for blank in OTHER_BLANKS:
                self.check_refused(self.task(), errors.NoRow, blank + line, line + blank, line.replace(" ", blank),
                                   line.replace(" ", blank, 1), line.replace(" ", " " + blank, 1))

    def test_left_out(self):
        for line in self.LINES:
            self.check_refused(self.task(), errors.NoRow, line.replace(" ", ""))

    def test_empty_lines(self):
        self.check_refused(self.task(), errors.NoRow, "", " ", "  ", "\n", "\t")

    def test_no_texts(self):
        self.check_refused(self.task(), errors.NoRow, *NO_TEXTS)
        self.check_refused(Task(), errors.NoRow, *NO_TEXTS)


class AskersOwn(TaskCase):
    LINES = TWO + ["let a = x + 2", "a = y"]
    LATER = ["z in 0 1", "let b = z * 5", "b >= a", "z = 0"]

    def test_told_ahead(self):
        task = read(self.LINES)
        told = state(task)
        kept = tuple(list(part) for part in told)
        for line in self.LATER:
            task.tell(line)
        refused(self, errors.TooMuch, task.tell, f"{SIXTEEN} = 0")
        self.assertEqual(told, kept)
        self.assertNotEqual(state(task), kept)

    def test_changed_by_the_asker(self):
        task = read(self.LINES)
        other = read(self.LINES)
        for change in (list.clear, list.reverse, lambda told: told.append(told[0]), lambda told: told.pop(0)):
            for told in state(task):
                change(told)
            self.assertEqual(state(task), state(other))
            for told in state(task):
                self.assertEqual(len(told) > 0, True)
        for line in self.LATER:
            self.assertEqual(task.tell(line), other.tell(line))
        self.assertEqual(state(task), state(other))

    def test_each_list_is_a_new_one(self):
        task = read(self.LINES)
        for one, other in zip(state(task), state(task)):
            self.assertIsNot(one, other)

    def test_lines_handed_in(self):
        lines = list(self.LINES)
        task = read(lines)
        self.assertEqual(lines, self.LINES)
        kept = state(task)
        lines.clear()
        self.assertEqual(state(task), kept)

    def test_two_tasks_beside_one_another(self):
        one = Task()
        other = Task()
        for line in self.LINES:
            one.tell(line)
        self.assertEqual(state(other), ([], [], [], []))
        other.tell("y in 0 1")
        other.tell("let a = y")
        self.assertEqual(state(one), state(read(self.LINES)))
        self.assertEqual(other.nodes(), [X])


class Read(TaskCase):
    def test_no_lines(self):
        task = read([])
        self.assertIs(type(task), Task)
        self.assertEqual(state(task), ([], [], [], []))

    def test_as_told_one_after_the_other(self):
        lines = TWO + ["let a = x ^ 2 + y ^ 2", "a = 4", "y >= x", "z in 0 1"]
        task = Task()
        for line in lines:
            task.tell(line)
        self.assertEqual(state(read(lines)), state(task))
        self.assertIs(type(read(lines)), Task)
        self.check_kinds(read(lines))

    def test_goes_on(self):
        task = read(TWO)
        self.check_tell(task, "x = y", "row")
        self.check_refused(task, errors.NoName, "x in 0 1")

    def test_refuses_by_the_first_bad_line(self):
        refused(self, errors.NoRow, read, TWO + ["x + y", "b = 0", f"{SIXTEEN} = 0"])
        self.assertEqual(refused(self, errors.NoName, read, TWO + ["b = c", "x + y", f"{SIXTEEN} = 0"]).word, "b")
        refused(self, errors.TooMuch, read, TWO + [f"{SIXTEEN} = 0", "b = 0", "x + y"])
        self.assertEqual(refused(self, errors.NoName, read, ["x = 0"] + TWO).word, "x")
        refused(self, errors.TooMuch, read, FOUR + ["v in 0 1"])
        refused(self, errors.TooMuch, read, TWO + ["x = y"] * 13)

    def test_no_texts_among_the_lines(self):
        for line in NO_TEXTS:
            refused(self, errors.NoRow, read, TWO + [line])
            refused(self, errors.NoRow, read, [line] + TWO)

    def test_a_refusal_leaves_nothing(self):
        for time in range(2):
            refused(self, errors.NoRow, read, TWO + ["x"])
            self.assertEqual(state(read(TWO)), (["x", "y"], ENDS, [X, Y], []))


class Otherwise(TaskCase):
    """Tasks of lines by chance, held against a second reckoning of their states."""

    NAMES = ("x", "y", "z", "u", "v", "a", "b", "c")
    WORDS = NAMES + ("0", "1", "2", "-3", "1/2", "2/4", "+", "-", "*", "^", "(", ")", "=", ">=", "in", "let", "")

    def expression(self, chance, depth):
        pick = chance.random()
        if depth == 0 or pick < 0.25:
            return chance.choice(self.NAMES[:6] + ("0", "2", "-3", "1/2"))
        first = self.expression(chance, depth - 1)
        if pick < 0.4:
            return f"( {first} ) ^ {chance.choice('23456')}"
        second = self.expression(chance, depth - 1)
        if pick < 0.6:
            return f"( {first} ) * ( {second} )"
        return f"{first} {chance.choice('+-*')} {second}"

    def line(self, chance):
        pick = chance.random()
        name = chance.choice(self.NAMES)
        if pick < 0.15:
            line = f"{name} in {chance.choice(('-3', '0', '1/2'))} {chance.choice(('-1', '0', '1/2', '4'))}"
        elif pick < 0.5:
            line = f"let {name} = {self.expression(chance, 3)}"
        else:
            line = f"{self.expression(chance, 2)} {chance.choice(('=', '>='))} {self.expression(chance, 2)}"
        if chance.random() < 0.1:
            words = line.split(" ")
            words[chance.randrange(len(words))] = chance.choice(self.WORDS)
            line = " ".join(words)
        return line

    def answer(self, task, line):
        try:
            return task.tell(line)
        except errors.NoName as refusal:
            return ("NoName", refusal.word)
        except errors.BoxError as refusal:
            return (type(refusal).__name__,)

    def test_by_chance(self):
        chance = random.Random(14)
        answers = {}
        for number in range(250):
            task = Task()
            told = NOTHING_TOLD
            lines = FOUR[:number % 4] + [self.line(chance) for place in range(50)]
            for line in lines:
                wanted, told = told_otherwise(told, line)
                self.assertEqual(self.answer(task, line), wanted, line)
                self.assertEqual(state(task), (told["names"], told["ends"], told["nodes"], told["rows"]), line)
                key = wanted if isinstance(wanted, str) else wanted[0]
                answers[key] = answers.get(key, 0) + 1
            self.check_kinds(task)
        # Each answer comes often, else the lines by chance would show little.
        self.assertEqual(sorted(answers), ["NoName", "NoRow", "TooMuch", "part", "row", "unknown"])
        self.assertGreater(min(answers.values()), 400, answers)


if __name__ == "__main__":
    unittest.main()
