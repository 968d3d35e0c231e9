"""Points 2 and 12: numbers and names as they are written."""

import unittest
from fractions import Fraction

from boxnarrow import errors
from boxnarrow.fractions import fraction
from boxnarrow.words import is_name, number_of, written
from tests.helping import LONG, LONGER, check_pair, refused

KEPT = ("let", "in", "grid", "fine", "looks", "solve", "boxes", "point", "right", "islands")
# Figures of other alphabets: Arabic, Devanagari, full width, above the line, in a ring.
OTHER_FIGURES = ("\u0663", "\u096a", "\uff17", "\u00b2", "\u2460")
OTHER_LETTERS = ("\u00e4", "\u00df", "\u0430", "\u03b1", "\u00aa", "\uff41", "\u0131")


class Reading(unittest.TestCase):
    def check(self, word, wanted):
        answer = number_of(word)
        check_pair(self, answer)
        self.assertEqual(answer, wanted)

    def check_refused(self, words):
        for word in words:
            with self.subTest(word=word):
                refused(self, errors.NoRow, number_of, word)

    def test_whole_ones(self):
        for word, top in (("0", 0), ("1", 1), ("7", 7), ("10", 10), ("-1", -1), ("-305", -305), ("100", 100)):
            self.check(word, (top, 1))

    def test_with_a_bottom(self):
        self.check("1/2", (1, 2))
        self.check("-1/2", (-1, 2))
        self.check("22/7", (22, 7))
        self.check("-10/3", (-10, 3))
        self.check("3/10", (3, 10))

    def test_nought(self):
        self.check_refused(("-0", "00", "-00", "0/1", "0/2", "-0/1", "-0/5", "0/0", "000000000"))

    def test_noughts_ahead(self):
        self.check_refused(("01", "-01", "007", "01/2", "1/02", "-1/02", "1/002", "0000000001"))

    def test_bottoms(self):
        self.check_refused((
            "1/1", "5/1", "-5/1", "1/0", "-1/0", "5/00", "1/-2", "-1/-2", "1/+2", "1/", "/2", "/", "-/2", "1//2",
            "1/2/3", "1/2/", "/1/2",
        ))

    def test_common_factors(self):
        self.check_refused(("2/2", "2/4", "-2/4", "6/3", "9/12", "999999999/3", "3/999999999", "999999999/999999999"))

    def test_how_many_figures(self):
        self.check("999999999", (999999999, 1))
        self.check("-999999999", (-999999999, 1))
        self.check("1/999999999", (1, 999999999))
        self.check("-999999998/999999999", (-999999998, 999999999))
        self.check("100000000/999999999", (100000000, 999999999))
        self.check_refused((
            "1000000000", "-1000000000", "9999999999", "1/1000000000", "-1/9999999999", "1000000000/3",
            "1000000001/1000000000", "1" * 400, "1/" + "1" * 400, "9" * 5000, "-" + "9" * 5000,
        ))

    def test_signs(self):
        self.check_refused((
            "-", "+", "--1", "+1", "-+1", "+-1", "1-", "1+", "1-2", "+1/2", "1.5", "1.", ".5", "1,5", "1e3", "1_000", "0x1",
            "1^2", "(1)", "*", "^", "(", ")", "=", "1/2-", "\u22121",
        ))

    def test_blanks(self):
        self.check_refused((
            "", " ", " 1", "1 ", "- 1", "1 /2", "1/ 2", "1 2", "1\n", "\n1", "1\t", "1/2\n", "1\r", "\u00a01", "1\x00",
        ))

    def test_figures_of_other_alphabets(self):
        for sign in OTHER_FIGURES:
            self.check_refused((sign, "-" + sign, "1" + sign, sign + "1", "1/" + sign, sign + "/3", "1/3" + sign))

    def test_letters(self):
        self.check_refused(("a", "x1", "1x", "one", "-a", "1/a", "a/2", "None", "inf", "nan", "True"))

    def test_all_small_ones(self):
        for top in range(-12, 13):
            for bottom in range(0, 13):
                word = f"{top}/{bottom}"
                if bottom > 1 and fraction(top, bottom) == (top, bottom):
                    self.check(word, (top, bottom))
                else:
                    self.check_refused((word,))

    def test_written_and_read_again(self):
        for top in range(-30, 31):
            for bottom in range(1, 31):
                number = fraction(top, bottom)
                self.check(written(number), number)


class Writing(unittest.TestCase):
    def check(self, a, wanted):
        answer = written(a)
        self.assertIs(type(answer), str)
        # Compared as truths: unittest would take long to show where such texts differ.
        self.assertTrue(answer == wanted, answer[:80])

    def test_plain(self):
        for a, wanted in (
            ((0, 1), "0"), ((1, 1), "1"), ((-1, 1), "-1"), ((10, 1), "10"), ((1, 2), "1/2"), ((-1, 2), "-1/2"),
            ((22, 7), "22/7"), ((-305, 100001), "-305/100001"), ((999999999, 1), "999999999"),
            ((1000000000, 1), "1000000000"), ((-1, 1000000000), "-1/1000000000"),
        ):
            self.check(a, wanted)

    def test_hundreds_of_figures(self):
        for a in ((LONG, 1), (-LONG, 1), (LONG, LONGER), (-LONGER, LONG), (1, LONG), (-1, LONGER)):
            self.check(a, str(Fraction(*a)))

    def test_each_number_of_figures(self):
        for many in range(1, 400):
            for number in (10 ** many - 1, 10 ** many, 10 ** many + 1, 7 * 10 ** many // 9):
                self.check((number, 1), str(number))
                self.check((-number, 1), str(-number))

    def test_thousands_of_figures(self):
        # More than Python writes at once.
        self.check((10 ** 9999 + 3, 1), "1" + "0" * 9998 + "3")
        self.check((-(10 ** 9999), 10 ** 5000 + 1), "-1" + "0" * 9999 + "/1" + "0" * 4999 + "1")
        self.check((10 ** 8000 - 1, 10 ** 8000), "9" * 8000 + "/1" + "0" * 8000)


class Names(unittest.TestCase):
    def check(self, words, wanted):
        for word in words:
            with self.subTest(word=word):
                self.assertIs(is_name(word), wanted)

    def test_how_many_letters(self):
        self.check(("",), False)
        self.check("abcdefghijklmnopqrstuvwxyz", True)
        for many in range(1, 9):
            self.check(("a" * many, "z" * many, "speedway"[:many]), True)
        self.check(("abcdefghi", "a" * 9, "z" * 10, "a" * 1000), False)

    def test_great_letters(self):
        self.check(("A", "Z", "X", "aB", "Ab", "LET", "speeD", "Speed"), False)

    def test_figures_and_signs(self):
        self.check((
            "1", "x1", "1x", "a2b", "0", "x_y", "_", "x-y", "x.", "x'", "+", "-", "*", "^", "(", ")", "=", ">=", "/",
            "`", "{", "@", "[",
        ), False)

    def test_blanks(self):
        self.check((" ", " x", "x ", "x y", "x\n", "\nx", "x\t", "\u00a0", "x\x00"), False)

    def test_letters_of_other_alphabets(self):
        for sign in OTHER_LETTERS + OTHER_FIGURES:
            self.check((sign, "x" + sign, sign + "x"), False)

    def test_kept_words(self):
        self.check(KEPT, False)

    def test_kept_words_with_a_letter_more_or_less(self):
        near = [word + "a" for word in KEPT] + ["a" + word for word in KEPT]
        near += [word + word[-1] for word in KEPT]
        for word in KEPT:
            near += [word[:place] + word[place + 1:] for place in range(len(word))]
        self.assertNotIn("", near)
        self.check(near, True)

    def test_kept_words_in_great_letters(self):
        self.check([word.upper() for word in KEPT] + [word.capitalize() for word in KEPT], False)

    def test_words_that_are_not_kept(self):
        self.check(("least", "zero", "plus", "power", "number", "unknown", "out", "full", "one", "small", "waits"), True)


class AskedAgain(unittest.TestCase):
    def test_told_again(self):
        for time in range(2):
            self.assertEqual(number_of("-22/7"), (-22, 7))
            refused(self, errors.NoRow, number_of, "2/4")
            self.assertEqual(written((-22, 7)), "-22/7")
            self.assertIs(is_name("let"), False)
            self.assertIs(is_name("lets"), True)


if __name__ == "__main__":
    unittest.main()
