"""Numbers and names as they are written."""

from boxnarrow.errors import NoRow
from boxnarrow.fractions import fraction

FIGURES = "0123456789"
LETTERS = "abcdefghijklmnopqrstuvwxyz"
MOST_FIGURES = 9
MOST_LETTERS = 8
KEPT_WORDS = ("let", "in", "grid", "fine", "looks", "solve", "boxes", "point", "right", "islands")


def made_of(word, signs, most):
    return 1 <= len(word) <= most and all([sign in signs for sign in word])


def figures_of(number):
    # Python refuses to write some thousand figures at once, so they are written piece by piece.
    piece = 10 ** 64
    texts = []
    while number >= piece:
        texts.append(str(number % piece).zfill(64))
        number = number // piece
    texts.append(str(number))
    return "".join(reversed(texts))


def written(a):
    text = figures_of(abs(a[0]))
    if a[0] < 0:
        text = "-" + text
    if a[1] != 1:
        text = text + "/" + figures_of(a[1])
    return text


def number_of(word):
    parts = word.partition("/")
    top = parts[0]
    bottom = parts[2] if parts[1] == "/" else "1"
    figures = top[1:] if top.startswith("-") else top
    if not made_of(figures, FIGURES, MOST_FIGURES) or not made_of(bottom, FIGURES, MOST_FIGURES):
        raise NoRow("a word is no number")
    if int(bottom) == 0:
        raise NoRow("a number has a bottom of 0")
    number = fraction(int(top), int(bottom))
    # Noughts ahead, -0, a bottom of 1 and common factors are all seen by this: none of them is ever written.
    if written(number) != word:
        raise NoRow("a number is not written as it is to be")
    return number


def is_name(word):
    return made_of(word, LETTERS, MOST_LETTERS) and word not in KEPT_WORDS
