"""Points 2 and 13: expressions and their trees."""

import itertools
import unittest

from boxnarrow import errors
from boxnarrow.grammar import tree_of
from tests.helping import check_tree, refused
from tests.otherwise import tree_otherwise

A = ("name", "a")
B = ("name", "b")
C = ("name", "c")
D = ("name", "d")
TWO = ("number", 2, 1)


class TreeCase(unittest.TestCase):
    def check(self, text, wanted):
        with self.subTest(text=text):
            words = text.split(" ")
            kept = list(words)
            answer = tree_of(words)
            check_tree(self, answer)
            self.assertEqual(answer, wanted)
            self.assertEqual(words, kept)

    def check_refused(self, *texts):
        for text in texts:
            with self.subTest(text=text):
                words = text.split(" ")
                kept = list(words)
                refused(self, errors.NoRow, tree_of, words)
                self.assertEqual(words, kept)


class Kinds(TreeCase):
    def test_numbers(self):
        self.check("0", ("number", 0, 1))
        self.check("5", ("number", 5, 1))
        self.check("-5", ("number", -5, 1))
        self.check("22/7", ("number", 22, 7))
        self.check("-999999998/999999999", ("number", -999999998, 999999999))

    def test_names(self):
        self.check("a", A)
        self.check("speedway", ("name", "speedway"))

    def test_two_parts(self):
        self.check("a + b", ("plus", A, B))
        self.check("a - b", ("minus", A, B))
        self.check("a * b", ("times", A, B))
        self.check("a - a", ("minus", A, A))
        self.check("a + -5", ("plus", A, ("number", -5, 1)))
        self.check("a - -1/2", ("minus", A, ("number", -1, 2)))
        self.check("-2 * -3", ("times", ("number", -2, 1), ("number", -3, 1)))

    def test_powers(self):
        for many in range(2, 7):
            self.check(f"a ^ {many}", ("power", A, many))
            self.check(f"2 ^ {many}", ("power", TWO, many))
            self.check(f"-1/2 ^ {many}", ("power", ("number", -1, 2), many))
            self.check(f"( a + b ) ^ {many}", ("power", ("plus", A, B), many))
            self.check(f"( a ) ^ {many}", ("power", A, many))

    def test_brackets(self):
        self.check("( a )", A)
        self.check("( ( 2 ) )", TWO)
        self.check("( a + b )", ("plus", A, B))
        self.check("( a ^ 2 ) ^ 3", ("power", ("power", A, 2), 3))
        self.check("( ( a - b ) * ( c + d ) )", ("times", ("minus", A, B), ("plus", C, D)))


class Order(TreeCase):
    def test_sums_and_differences(self):
        self.check("a - b - c", ("minus", ("minus", A, B), C))
        self.check("a + b + c", ("plus", ("plus", A, B), C))
        self.check("a - b + c", ("plus", ("minus", A, B), C))
        self.check("a + b - c", ("minus", ("plus", A, B), C))
        self.check("a - b - c - d", ("minus", ("minus", ("minus", A, B), C), D))
        self.check("a - ( b - c )", ("minus", A, ("minus", B, C)))
        self.check("a - ( b - c ) - d", ("minus", ("minus", A, ("minus", B, C)), D))

    def test_products(self):
        self.check("a * b * c", ("times", ("times", A, B), C))
        self.check("a * b * c * d", ("times", ("times", ("times", A, B), C), D))
        self.check("a * ( b * c )", ("times", A, ("times", B, C)))
        self.check("a * ( b * c ) * d", ("times", ("times", A, ("times", B, C)), D))

    def test_products_ahead_of_sums(self):
        self.check("a + b * c", ("plus", A, ("times", B, C)))
        self.check("a * b + c", ("plus", ("times", A, B), C))
        self.check("a * b - c * d", ("minus", ("times", A, B), ("times", C, D)))
        self.check("a - b * c - d", ("minus", ("minus", A, ("times", B, C)), D))
        self.check("( a + b ) * c", ("times", ("plus", A, B), C))

    def test_powers_ahead_of_products(self):
        self.check("a * b ^ 2", ("times", A, ("power", B, 2)))
        self.check("a ^ 2 * b", ("times", ("power", A, 2), B))
        self.check("a ^ 3 + b ^ 2", ("plus", ("power", A, 3), ("power", B, 2)))
        self.check("( a * b ) ^ 2", ("power", ("times", A, B), 2))
        self.check("2 * ( a - b ) ^ 6 * c", ("times", ("times", TWO, ("power", ("minus", A, B), 6)), C))


class Bounds(TreeCase):
    def test_brackets_in_brackets(self):
        for many in (1, 2, 15, 16):
            self.check("( " * many + "a" + " )" * many, A)
        for many in (17, 18, 30, 59):
            self.check_refused("( " * many + "a" + " )" * many)

    def test_brackets_open_at_one_place(self):
        deep = "( " * 16 + "a" + " )" * 16
        self.check(f"{deep} - {deep} - {deep}", ("minus", ("minus", A, A), A))
        self.check(f"b * {deep} ^ 2", ("times", B, ("power", A, 2)))
        self.check_refused(f"( {deep} )", f"( {deep} + b )", f"( b + {deep} )", f"b + ( b * {deep} )")
        # Brackets that are shut by then count no more, and those that are open still do.
        self.check_refused(f"( ( b ) + {deep} )", f"( b ) + ( {deep} )", f"( ( b ) * ( b ) - {deep} )")
        inner = "( " * 15 + "a" + " )" * 15
        self.check(f"( {inner} + ( a ) )", ("plus", A, A))
        self.check(f"( {inner} * {inner} )", ("times", A, A))

    def test_many_brackets_side_by_side(self):
        wanted = A
        for time in range(29):
            wanted = ("plus", wanted, A)
        self.check(" + ".join(["( a )"] * 30), wanted)

    def test_how_many_words(self):
        # Each expression has an odd number of words, so 119 is the most that one can have, and 121 the first too many.
        for many, first, last in ((60, "a", "a"), (59, "( a )", "a"), (59, "a", "a ^ 2"), (58, "( a )", "( a )")):
            text = " - ".join([first] + ["a"] * (many - 2) + [last])
            self.assertEqual(len(text.split(" ")), 119)
            self.check(text, tree_otherwise(text.split(" ")))
            longer = (f"{text} - a", f"a * {text}", f"( {text} )")
            for other in longer:
                self.assertEqual(len(other.split(" ")), 121)
                self.assertIsNotNone(tree_otherwise(other.split(" ")))
            self.check_refused(*longer)
            self.check_refused(f"{text} -", f"- {text}", f"{text} a", f"{text} )", f"( {text}")

    def test_many_more_words(self):
        self.check_refused(" + ".join(["a"] * 62), " * ".join(["a"] * 500), " ".join(["("] * 5000))

    def test_no_word(self):
        refused(self, errors.NoRow, tree_of, [])


class Refused(TreeCase):
    def test_powers(self):
        self.check_refused(
            "a ^ 0", "a ^ 1", "a ^ 7", "a ^ 10", "a ^ -2", "a ^ 2/3", "a ^ 02", "a ^ b", "a ^ ( 2 )", "a ^", "^ 2", "a ^ ^ 2",
            "a ^ 2 ^ 3", "a ^ 2 ^", "a ^ 2 3", "a ^ )", "( a ) ^ 1", "( a ) ^ 7", "a ^ \u00b2", "a ^ 2a", "a ^ 23",
        )

    def test_words_that_are_nothing(self):
        for word in (
            "A", "x1", "ninelette", "1.5", "01", "2/4", "1/0", "-0", "+1", "let", "in", "grid", "islands", "=", ">=", "**",
            "/", "--", "+-", "()", "(a", "a)", "[", "]", "1000000000", "\u00e4", "a\n", "a+b", ",",
        ):
            self.check_refused(word, f"a + {word}", f"{word} * a", f"( {word} )", f"a {word} b", f"{word} ^ 2")
        for words in ([""], ["a", "+", ""], ["", "a"], ["a", ""], [" "], ["a", "+", " b"], ["a + b"], ["( a )"], ["a "]):
            refused(self, errors.NoRow, tree_of, words)

    def test_brackets(self):
        self.check_refused(
            "(", ")", "( )", ") (", "( a", "a )", "( ( a )", "( a ) )", "( a ) b", "a ( b )", "( a ) ( b )", "( a + )", "( + a )",
            "( a b )", "2 ( a )", ") a (", "( a ) 2",
        )

    def test_signs(self):
        self.check_refused(
            "+", "-", "*", "^", "+ a", "- a", "* a", "a +", "a -", "a *", "a + + b", "a - - b", "a * * b", "a + * b", "a * - b", "a b",
            "2 a", "a 2", "2 3", "a -5", "a - ( - b )",
        )

    def test_a_word_left_out_or_doubled(self):
        words = "a - ( b + 2 ) ^ 3 * ( ( c ) - d * 5 ) + a * b ^ 2".split(" ")
        self.check(" ".join(words), tree_otherwise(words))
        for place in range(len(words)):
            self.check_refused(" ".join(words[:place] + words[place + 1:]))
            self.check_refused(" ".join(words[:place + 1] + words[place:]))

    def test_two_words_left_out(self):
        words = "a - ( b + 2 ) ^ 3 * ( ( c ) - d * 5 ) + a * b ^ 2".split(" ")
        told = 0
        for one, other in itertools.combinations(range(len(words)), 2):
            near = [word for place, word in enumerate(words) if place not in (one, other)]
            wanted = tree_otherwise(near)
            if wanted is None:
                self.check_refused(" ".join(near))
            else:
                told += 1
                self.check(" ".join(near), wanted)
        self.assertGreater(told, 10)


class Otherwise(unittest.TestCase):
    def held_against_the_other(self, rows):
        """How many of rows, each the words of perhaps an expression, are told a tree; fails where that is another."""
        told = 0
        for words in rows:
            try:
                answer = tree_of(list(words))
            except errors.NoRow:
                answer = None
            self.assertEqual(answer, tree_otherwise(words), words)
            told += answer is not None
        return told

    def test_all_short_ones(self):
        signs = ("a", "2", "7", "+", "-", "*", "^", "(", ")")
        for many, least in ((0, 0), (1, 3), (2, 0), (3, 30), (4, 0), (5, 300)):
            self.assertGreaterEqual(self.held_against_the_other(itertools.product(signs, repeat=many)), least)

    def test_longer_ones(self):
        choices = ("a-*(", "ab*", "-)^", "2(a", "*)b", "a^+", "c3)")
        self.assertGreater(self.held_against_the_other(itertools.product(*choices)), 5)


class AskersOwn(unittest.TestCase):
    def test_words_changed_later(self):
        words = ["a", "+", "b"]
        tree = tree_of(words)
        words[0] = "c"
        words.clear()
        self.assertEqual(tree, ("plus", A, B))
        self.assertEqual(tree_of(["a", "+", "b"]), tree)

    def test_a_refusal_leaves_nothing(self):
        for time in range(3):
            refused(self, errors.NoRow, tree_of, ["("] * 17)
            refused(self, errors.NoRow, tree_of, ["(", "a"])
            deep = ["("] * 16 + ["a"] + [")"] * 16
            self.assertEqual(tree_of(deep), A)


if __name__ == "__main__":
    unittest.main()
