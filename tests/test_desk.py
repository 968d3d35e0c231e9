"""Points 2, 33 and 34: the desk's lines, what it answers to each, and what it refuses."""

import random
import unittest
from fractions import Fraction

from boxnarrow.desk import Desk
from boxnarrow.errors import NoBook, NoName, NoRow, NoTask, TooMuch
from tests.helping import refused
from tests.otherwise_books import NEW_DESK, desk_otherwise

ASKED = ("boxes", "right", "islands")


def desk_of(*lines):
    desk = Desk()
    for line in lines:
        desk.tell(line)
    return desk


class DeskCase(unittest.TestCase):
    def check(self, desk, line, wanted):
        answer = desk.tell(line)
        self.assertEqual(answer, wanted, line)
        self.assertIs(type(answer), list)
        self.assertEqual([type(text) for text in answer], [str] * len(answer))

    def check_lines(self, *lines):
        """Tells a new desk lines, each a tuple of the line and its answer."""
        desk = Desk()
        for line, wanted in lines:
            self.check(desk, line, wanted)
        return desk


class Tasks(DeskCase):
    def test_lines_of_a_task(self):
        self.check_lines(
            ("x in 0 1", ["unknown 0"]), ("let a = x + 1", ["part"]), ("a = 1", ["row 0"]), ("y in 0 1", ["unknown 1"]),
            ("y >= a", ["row 1"]), ("z in -1/2 1/2", ["unknown 2"]), ("let b = a", ["part"]), ("u in 3 3", ["unknown 3"]),
            ("a = 1", ["row 2"]), ("a * b * z >= 0", ["row 3"]),
        )

    def test_twelve_rows(self):
        desk = desk_of("x in 0 1")
        for number in range(12):
            self.check(desk, f"x >= {number}", [f"row {number}"])
        refused(self, TooMuch, desk.tell, "x >= 12")
        # The second row shaves off all but the last step, and this the third one bars.
        self.check(desk, "solve", ["ones 0", "fulls 0", "smalls 0", "waits 0", "outs 2"])

    def test_refusals_of_a_task(self):
        desk = desk_of("x in 0 1", "let a = x")
        for line in ("x", "x =", "= x", "x in 0", "x in 1 0", "let", "let b", "let b = ", "x = 01", "", " ", "x  = 0", "Let b = x", "x = 0 = 1"):
            refused(self, NoRow, desk.tell, line)
        for line, word in (("x in 0 1", "x"), ("let a = x", "a"), ("let x = b", "x"), ("b = c", "b"), ("x = c", "c"), ("a in 0 1", "a")):
            self.assertEqual(refused(self, NoName, desk.tell, line).word, word)
        for line in ("x ^ 6 * x ^ 6 * x ^ 5 = 0", "let b = x ^ 6 * x ^ 6 * x ^ 6"):
            refused(self, TooMuch, desk.tell, line)
        for name in "yzu":
            desk.tell(f"{name} in 0 1")
        refused(self, TooMuch, desk.tell, "v in 0 1")

    def test_what_is_no_text(self):
        for line in (None, 0, 1, True, ["x in 0 1"], ("solve",), b"solve", {}):
            refused(self, NoRow, Desk().tell, line)

    def test_kept_words_as_names(self):
        for word in ("grid", "fine", "looks", "solve", "boxes", "point", "right", "islands", "let", "in"):
            desk = desk_of("x in 0 1")
            for line in (f"{word} in 0 1", f"let {word} = x", f"{word} = x", f"x = {word}", f"{word} >= 0", f"{word} + x = 0"):
                refused(self, NoRow, desk.tell, line)


class Settings(DeskCase):
    def test_at_the_bounds(self):
        for line in (
            "grid 1", "grid 1000000", "grid 64", "fine 1", "fine 999999999", "fine 16", "looks 0", "looks 300", "looks 60", "looks 1",
        ):
            self.check(Desk(), line, [line])
            self.check(desk_of("x in 0 1", "solve"), line, [line])

    def test_beyond_the_bounds(self):
        for line in (
            "grid 0", "grid 1000001", "grid -1", "fine 0", "fine 1000000000", "fine -1", "looks -1", "looks 301", "grid 999999999",
            "looks 999999999", "fine 999999999999", "looks 1000000000", "grid 10000000000",
        ):
            refused(self, NoRow, Desk().tell, line)

    def test_numbers_written_badly(self):
        for word in ("grid", "fine", "looks"):
            for number in (
                "", "01", "+1", "1/1", "2/1", "1/2", "3/2", "-0", "00", "1.0", "1e2", "x", "one", "1 1", " 1", "1 ", "0x10", "1_0",
                "\u0663", "\u00b2", "-", "/", "1/", "/1", "--1", "4/2", "64/1", "^", "( 1 )", "1 + 1",
            ):
                refused(self, NoRow, Desk().tell, f"{word} {number}")
            refused(self, NoRow, Desk().tell, word)
            refused(self, NoRow, Desk().tell, f" {word} 1")
            refused(self, NoRow, Desk().tell, f"{word}  1")
            refused(self, NoRow, Desk().tell, f"{word} = 1")
            refused(self, NoRow, Desk().tell, word.upper() + " 1")

    def test_at_first(self):
        # 64: the ends of what is shaved off tell it. 16: the box of 16 steps is small, that of 17 not. 60 looks: 60 cuts.
        desk = desk_of("x in 0 2", "x * x >= 2")
        desk.tell("solve")
        answer = desk.tell("boxes")
        self.assertTrue(all(64 % Fraction(word).denominator == 0 for text in answer for word in text.split(" ")[3:]))
        self.assertTrue(any(Fraction(word).denominator == 64 for text in answer for word in text.split(" ")[3:]))
        self.check_lines(
            ("x in 0 1/4", ["unknown 0"]), ("x = x", ["row 0"]), ("solve", ["ones 0", "fulls 0", "smalls 1", "waits 0", "outs 0"]),
            ("boxes", ["small 0 x 0 1/4"]),
        )
        self.check_lines(
            ("x in 0 17/64", ["unknown 0"]), ("x = x", ["row 0"]), ("solve", ["ones 0", "fulls 0", "smalls 2", "waits 0", "outs 0"]),
            ("boxes", ["small 1 x 0 1/8", "small 2 x 1/8 17/64"]),
        )
        self.check_lines(
            ("x in 0 9999", ["unknown 0"]), ("x = x", ["row 0"]), ("solve", ["ones 0", "fulls 0", "smalls 0", "waits 61", "outs 0"]),
        )

    def test_they_hold_from_then_on(self):
        desk = desk_of("x in 0 1/3", "x = x")
        for line, counts, boxes in (
            ("grid 3", "smalls 1 waits 0", ["small 0 x 0 1/3"]), ("grid 10", "smalls 1 waits 0", ["small 0 x 0 2/5"]),
            ("fine 3", "smalls 2 waits 0", ["small 1 x 0 1/5", "small 2 x 1/5 2/5"]),
            ("looks 2", "smalls 1 waits 1", ["small 1 x 0 1/5", "waits 2 x 1/5 2/5"]),
            ("looks 1", "smalls 0 waits 2", ["waits 1 x 0 1/5", "waits 2 x 1/5 2/5"]),
            ("looks 0", "smalls 0 waits 1", ["waits 0 x 0 2/5"]), ("fine 4", "smalls 0 waits 1", ["waits 0 x 0 2/5"]),
            ("looks 300", "smalls 1 waits 0", ["small 0 x 0 2/5"]),
        ):
            desk.tell(line)
            smalls, waits = counts.split(" ")[1::2]
            self.check(desk, "solve", ["ones 0", "fulls 0", f"smalls {smalls}", f"waits {waits}", "outs 0"])
            self.check(desk, "boxes", boxes)
            self.check(desk, "right", ["right"])

    def test_one_leaves_the_others(self):
        desk = desk_of("x in 0 1", "x = x", "looks 3", "grid 10", "fine 2", "looks 4", "solve")
        self.check(desk, "boxes", [
            "waits 3 x 0 1/5", "waits 5 x 1/2 7/10", "waits 6 x 7/10 1", "waits 7 x 1/5 3/10", "waits 8 x 3/10 1/2",
        ])


class Solving(DeskCase):
    def test_one_answer(self):
        self.check_lines(
            ("x in 0 10", ["unknown 0"]), ("x = 5", ["row 0"]), ("grid 1", ["grid 1"]),
            ("solve", ["ones 1", "fulls 0", "smalls 0", "waits 0", "outs 2"]), ("boxes", ["one 3 x 4 6"]),
            ("islands", ["3 x 4 6"]), ("right", ["right"]), ("point 5", ["one"]), ("point 4", ["out 0"]), ("point 9/2", ["one"]),
            ("point 6", ["one"]), ("point 13/2", ["out 0"]), ("point 11", ["outside"]), ("point -1/100", ["outside"]),
            ("point 10", ["out 0"]), ("point 0", ["out 0"]),
        )

    def test_fulls_smalls_and_outs(self):
        self.check_lines(
            ("grid 1", ["grid 1"]), ("fine 1", ["fine 1"]), ("speed in 0 10", ["unknown 0"]), ("speed >= 3", ["row 0"]),
            ("solve", ["ones 0", "fulls 3", "smalls 1", "waits 0", "outs 1"]),
            ("boxes", ["full 4 speed 6 10", "full 6 speed 4 6", "small 7 speed 2 3", "full 8 speed 3 4"]),
            ("islands", ["4 6 7 8 speed 2 10"]), ("right", ["right"]), ("point 2", ["out 0"]), ("point 5/2", ["small"]),
            ("point 3", ["small"]), ("point 31/10", ["full"]), ("point 10", ["full"]), ("point 101/10", ["outside"]),
            ("looks 3", ["looks 3"]), ("solve", ["ones 0", "fulls 1", "smalls 0", "waits 2", "outs 1"]),
            ("boxes", ["full 4 speed 6 10", "waits 5 speed 2 4", "waits 6 speed 4 6"]), ("point 5", ["waits"]),
            ("point 7", ["full"]), ("islands", ["4 5 6 speed 2 10"]),
        )

    def test_two_unknowns(self):
        self.check_lines(
            ("y in 0 10", ["unknown 0"]), ("x in 0 10", ["unknown 1"]), ("y + x = 10", ["row 0"]), ("3 >= y", ["row 1"]),
            ("3 >= x", ["row 2"]), ("grid 1", ["grid 1"]), ("fine 1", ["fine 1"]), ("looks 1", ["looks 1"]),
            ("solve", ["ones 0", "fulls 0", "smalls 0", "waits 0", "outs 3"]), ("boxes", []), ("islands", []), ("right", ["right"]),
            ("point 0 0", ["out 0"]), ("point 5 0", ["out 1"]), ("point 0 5", ["out 2"]), ("point 5 5", ["out 1"]),
            ("point 0 11", ["outside"]), ("point 11 0", ["outside"]), ("point 4 4", ["out 0"]), ("point 4 401/100", ["out 2"]),
        )

    def test_islands_apart(self):
        self.check_lines(
            ("x in -3 3", ["unknown 0"]), ("y in 0 1/2", ["unknown 1"]), ("x * x = 4", ["row 0"]), ("grid 2", ["grid 2"]),
            ("fine 1", ["fine 1"]), ("solve", desk_otherwise_of("x in -3 3", "y in 0 1/2", "x * x = 4", "grid 2", "fine 1", "solve")),
            ("islands", desk_otherwise_of("x in -3 3", "y in 0 1/2", "x * x = 4", "grid 2", "fine 1", "solve", "islands")),
        )

    def test_no_rows(self):
        self.check_lines(
            ("x in -1/3 1/3", ["unknown 0"]), ("solve", ["ones 0", "fulls 1", "smalls 0", "waits 0", "outs 0"]),
            ("boxes", ["full 0 x -11/32 11/32"]), ("islands", ["0 x -11/32 11/32"]), ("point 1/3", ["full"]),
            # Ends are rounded outward, so the box holds somewhat more.
            ("point 11/32", ["full"]), ("point 3/8", ["outside"]), ("right", ["right"]),
        )

    def test_long_numbers(self):
        # On the grid 999999 the ends have more figures than a number read may have.
        self.check_lines(
            ("x in -999999999 999999999/2", ["unknown 0"]), ("grid 999999", ["grid 999999"]),
            ("solve", ["ones 0", "fulls 1", "smalls 0", "waits 0", "outs 0"]),
            ("boxes", ["full 0 x -999999999 499999499500001/999999"]),
            ("point -999999999", ["full"]),
        )

    def test_a_wrong_book(self):
        # No line makes one, so it is put there.
        desk = desk_of("x in 0 10", "x = 5", "grid 1", "solve")
        for book, wanted in (([], "wrong"), ([([(0, 10)], ("waits",))], "right"), ([([(0, 9)], ("waits",))], "wrong")):
            desk.book = book
            self.check(desk, "right", [wanted])

    def test_again_is_the_same(self):
        desk = desk_of("x in -3 3", "x ^ 2 = 2")
        first = [desk.tell(line) for line in ("solve", "boxes", "islands", "right")]
        self.assertEqual([desk.tell(line) for line in ("solve", "boxes", "islands", "right")], first)
        self.assertEqual(first[3], ["right"])


def desk_otherwise_of(*lines):
    state = NEW_DESK
    for line in lines:
        answer, state = desk_otherwise(state, line)
    return answer


class Refusals(DeskCase):
    def test_a_word_too_many(self):
        for desk in (Desk(), desk_of("x in 0 1"), desk_of("x in 0 1", "solve")):
            for line in ("solve x", "solve solve", "boxes 1", "right right", "islands 0", "solve ", " solve", "boxes  ", "right = x", "solve in 0 1"):
                refused(self, NoRow, desk.tell, line)

    def test_no_task(self):
        desk = Desk()
        refused(self, NoTask, desk.tell, "solve")
        # Rows and parts without an unknown are none.
        for line in ("let a = 1", "a = 1", "grid 5"):
            desk.tell(line)
            refused(self, NoTask, desk.tell, "solve")
        desk.tell("x in 0 1")
        self.check(desk, "solve", ["ones 0", "fulls 1", "smalls 0", "waits 0", "outs 0"])

    def test_no_book(self):
        desk = Desk()
        for line in ASKED:
            refused(self, NoBook, desk.tell, line)
        desk.tell("x in 0 1")
        for line in ASKED + ("point 0",):
            refused(self, NoBook, desk.tell, line)

    def test_points(self):
        for many in range(1, 5):
            desk = desk_of(*[f"{name} in 0 1" for name in "xyzu"[:many]])
            for numbers in range(6):
                line = " ".join(["point"] + ["1/2"] * numbers)
                refused(self, NoBook if numbers == many else NoRow, desk.tell, line)
            desk.tell("solve")
            for numbers in range(6):
                line = " ".join(["point"] + ["1/2"] * numbers)
                if numbers == many:
                    self.check(desk, line, ["full"])
                else:
                    refused(self, NoRow, desk.tell, line)

    def test_points_without_an_unknown(self):
        refused(self, NoBook, Desk().tell, "point")
        for line in ("point 0", "point 0 0", "point x", "point ", "point  0"):
            refused(self, NoRow, Desk().tell, line)

    def test_points_with_bad_numbers(self):
        for desk in (desk_of("x in 0 1"), desk_of("x in 0 1", "solve")):
            for word in ("x", "01", "2/4", "1/0", "-0", "+1", "1.5", "1234567890", "1/1234567890", "1/1", "", "( 0 )", "one"):
                refused(self, NoRow, desk.tell, f"point {word}")
        desk = desk_of("x in 0 1", "y in 0 1", "solve")
        for line in ("point 0 x", "point x 0", "point 0 00", "point 0  0", "point 0 0 "):
            refused(self, NoRow, desk.tell, line)

    def test_numbers_of_nine_figures(self):
        desk = desk_of("x in 0 1", "solve")
        self.check(desk, "point 1/999999999", ["full"])
        self.check(desk, "point 999999999/999999998", ["outside"])
        self.check(desk, "point -1/999999999", ["outside"])
        self.check(desk, "point 999999999", ["outside"])

    def test_the_order_of_several_that_fit(self):
        desk = Desk()
        # No line goes ahead of no task, and of no book.
        refused(self, NoRow, desk.tell, "solve now")
        refused(self, NoRow, desk.tell, "boxes all")
        refused(self, NoRow, desk.tell, "point 1")
        # Of a task's lines no line goes ahead of a name, a name ahead of too much.
        desk = desk_of(*[f"{name} in 0 1" for name in "xyzu"])
        refused(self, NoRow, desk.tell, "x in 1 0")
        self.assertEqual(refused(self, NoName, desk.tell, "x in 0 1").word, "x")
        refused(self, TooMuch, desk.tell, "v in 0 1")


class WhatARefusalLeaves(DeskCase):
    BAD = (
        "x in 0 1", "y in 1 0", "x = c", "let x = 1", "grid 0", "fine 0", "looks 301", "grid", "solve now", "point", "point 1 1",
        "point x", "boxes 1", "right 1", "islands 1", "", "x", "x ^ 6 * x ^ 6 * x ^ 6 = 0", None, 5, "let a = x ^ 6 * x ^ 6 * x ^ 6",
    )

    def test_the_book_stays(self):
        desk = desk_of("x in 0 10", "x = 5", "grid 1", "solve")
        kept = [desk.tell(line) for line in ASKED + ("point 5", "point 4")]
        for line in self.BAD:
            with self.assertRaises(ValueError):
                desk.tell(line)
            self.assertEqual([desk.tell(asked) for asked in ASKED + ("point 5", "point 4")], kept)
        # The settings and the task are as they were, too.
        self.check(desk, "solve", ["ones 1", "fulls 0", "smalls 0", "waits 0", "outs 2"])
        self.assertEqual([desk.tell(line) for line in ASKED + ("point 5", "point 4")], kept)
        self.check(desk, "x >= 0", ["row 1"])
        self.check(desk, "y in 0 1", ["unknown 1"])
        self.check(desk, "let a = x", ["part"])

    def test_settings_stay(self):
        wanted = desk_of("x in 0 3", "x * x = 2", "grid 10", "fine 2", "looks 9", "solve").tell("boxes")
        desk = desk_of("x in 0 3", "x * x = 2", "grid 10", "fine 2", "looks 9")
        for line in ("grid 1000001", "grid 20/3", "grid 20 20", "fine 0", "fine 1000000000", "looks 301", "looks -1", "looks 07"):
            refused(self, NoRow, desk.tell, line)
        desk.tell("solve")
        self.check(desk, "boxes", wanted)

    def test_no_book_comes_of_it(self):
        desk = Desk()
        refused(self, NoTask, desk.tell, "solve")
        for line in ASKED + ("point",):
            refused(self, NoBook, desk.tell, line)


class TheBookIsGone(DeskCase):
    def test_by_each_line_that_is_not_refused(self):
        for line in (
            "y in 0 1", "let a = x", "x >= 0", "x = 5", "grid 1", "grid 2", "fine 16", "fine 3", "looks 60", "looks 0",
        ):
            desk = desk_of("x in 0 10", "x = 5", "grid 1", "solve")
            self.check(desk, "right", ["right"])
            desk.tell(line)
            for asked in ASKED + (("point 0 0",) if line[0] == "y" else ("point 0",)):
                refused(self, NoBook, desk.tell, asked)
            desk.tell("solve")
            self.check(desk, "right", ["right"])
            self.assertEqual(desk.tell("boxes") != [], True)

    def test_asking_leaves_it(self):
        desk = desk_of("x in 0 10", "x = 5", "grid 1", "solve")
        for time in range(3):
            for line, wanted in (("boxes", ["one 3 x 4 6"]), ("islands", ["3 x 4 6"]), ("right", ["right"]), ("point 5", ["one"])):
                self.check(desk, line, wanted)

    def test_made_anew(self):
        desk = desk_of("x in 0 10", "x = 5", "grid 1", "solve")
        self.check(desk, "boxes", ["one 3 x 4 6"])
        desk.tell("x >= 6")
        self.check(desk, "solve", desk_otherwise_of("x in 0 10", "x = 5", "grid 1", "x >= 6", "solve"))
        self.check(desk, "boxes", desk_otherwise_of("x in 0 10", "x = 5", "grid 1", "x >= 6", "solve", "boxes"))


class SeveralDesks(DeskCase):
    def test_beside_each_other(self):
        one, other = Desk(), Desk()
        self.check(one, "x in 0 10", ["unknown 0"])
        self.check(other, "y in 0 1", ["unknown 0"])
        self.check(one, "x = 5", ["row 0"])
        self.check(one, "grid 1", ["grid 1"])
        self.check(one, "looks 9", ["looks 9"])
        self.check(other, "x in 0 2", ["unknown 1"])
        self.check(one, "solve", ["ones 1", "fulls 0", "smalls 0", "waits 0", "outs 2"])
        refused(self, NoBook, other.tell, "boxes")
        self.check(other, "solve", ["ones 0", "fulls 1", "smalls 0", "waits 0", "outs 0"])
        self.check(other, "boxes", ["full 0 y 0 1 x 0 2"])
        self.check(one, "boxes", ["one 3 x 4 6"])
        self.check(other, "fine 1", ["fine 1"])
        self.check(one, "right", ["right"])
        refused(self, NoTask, Desk().tell, "solve")

    def test_what_is_done_to_an_answer_changes_nothing(self):
        desk = desk_of("x in 0 10", "x = 5", "grid 1", "solve")
        for line in ("solve", "boxes", "islands", "right", "point 5"):
            answer = desk.tell(line)
            kept = list(answer)
            answer.append("more")
            answer.reverse()
            self.check(desk, line, kept)
        for line in ("grid 1", "fine 16", "looks 60", "let a = x", "a >= 0"):
            desk.tell(line).clear()
        desk.tell("solve")
        self.check(desk, "boxes", ["one 3 x 4 6"])


class ByChance(DeskCase):
    """Sessions of lines by chance, held against a desk that is reckoned otherwise."""

    LINES = (
        "x in -3 3", "x in 0 10", "y in -2 2", "y in 0 4", "z in 1/3 1/2", "x = 2", "x * y = 2", "x ^ 2 = 2", "x ^ 2 + y ^ 2 = 4", "x >= y",
        "y >= 1/2", "let a = x * y", "a >= 1", "x + y = 3", "let b = x - y", "b = 0", "grid 1", "grid 8", "grid 10", "fine 1", "fine 3",
        "looks 0", "looks 5", "looks 20", "point 1", "point 1 1", "point 1 1 1", "point 1/3 2", "point 9 9", "point 5", "point", "x = x",
    )
    BAD = (
        "", " ", "x", "solve 1", "grid 0", "grid 1000001", "fine 0", "looks 301", "looks 1/2", "point x", "boxes 0", "point 01", "in", "let",
        "x in 1 0", "x = 1 = 2", "let let = 1", "right ", "c = 0", "let x = 1", None, 7, "x ^ 6 * y ^ 6 * x ^ 6 = 0", "solve = 0",
    )

    def test_sessions(self):
        chance = random.Random(33)
        texts = 0
        for session in range(60):
            desk, state = Desk(), NEW_DESK
            lines = [chance.choice(("x in -3 3", "x in 0 4")), chance.choice(("y in 0 4", "grid 4", "solve")), "grid 8", "looks 12"]
            for time in range(25):
                kinds = (self.LINES, self.LINES, self.BAD, ("solve",), ASKED, ASKED)
                lines.append(chance.choice(chance.choice(kinds)))
            for line in lines:
                wanted, state = desk_otherwise(state, line)
                if isinstance(wanted, tuple):
                    with self.assertRaises(ValueError) as caught:
                        desk.tell(line)
                    refusal = caught.exception
                    self.assertEqual((type(refusal).__name__, *([refusal.word] if wanted[0] == "NoName" else [])), wanted, line)
                else:
                    self.check(desk, line, wanted)
                    texts += len(wanted)
        self.assertGreater(texts, 1000)


if __name__ == "__main__":
    unittest.main()
