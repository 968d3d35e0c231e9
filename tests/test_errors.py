"""Point 2: the refusals' classes, and the interface of boxnarrow.errors."""

import unittest

from boxnarrow import errors
from tests.helping import REFUSALS, refused


def refuse(error, *words):
    raise error(*words)


class Classes(unittest.TestCase):
    def test_names(self):
        names = ["NoNumber", "NoSpan", "NoCut", "NoRow", "TooMuch", "NoTask", "NoBook", "NoName"]
        self.assertEqual([kind.__name__ for kind in REFUSALS], names)
        for name in names:
            self.assertTrue(hasattr(errors, name))

    def test_base_stands_under_value_error(self):
        self.assertEqual(errors.BoxError.__bases__, (ValueError,))

    def test_each_stands_straight_under_the_base(self):
        for kind in REFUSALS:
            with self.subTest(kind=kind.__name__):
                self.assertEqual(kind.__bases__, (errors.BoxError,))

    def test_none_stands_under_another(self):
        for kind in REFUSALS:
            for other in REFUSALS:
                with self.subTest(kind=kind.__name__, other=other.__name__):
                    self.assertEqual(issubclass(kind, other), kind is other)

    def test_each_is_caught_as_itself_alone(self):
        for kind in REFUSALS:
            with self.subTest(kind=kind.__name__):
                refused(self, kind, refuse, kind, "words")


class NoNameField(unittest.TestCase):
    def test_word(self):
        for word in ("x", "let", "", "two words"):
            with self.subTest(word=word):
                self.assertEqual(errors.NoName(word).word, word)

    def test_word_when_caught(self):
        self.assertEqual(refused(self, errors.NoName, refuse, errors.NoName, "speed").word, "speed")

    def test_each_has_its_own_word(self):
        one = errors.NoName("a")
        other = errors.NoName("b")
        self.assertEqual((one.word, other.word), ("a", "b"))


if __name__ == "__main__":
    unittest.main()
