"""Expressions: from their words to their tree."""

from boxnarrow.errors import NoRow
from boxnarrow.words import is_name, number_of

MOST_WORDS = 120
MOST_BRACKETS = 16
SUMS = {"+": "plus", "-": "minus"}
POWERS = ("2", "3", "4", "5", "6")


class Reader:
    def __init__(self, words):
        self.words = words
        self.place = 0
        self.depth = 0

    def at_end(self):
        return self.place == len(self.words)

    def sees(self, choices):
        return not self.at_end() and self.words[self.place] in choices

    def take(self):
        if self.at_end():
            raise NoRow("an expression ends too soon")
        word = self.words[self.place]
        self.place += 1
        return word

    def expression(self):
        tree = self.term()
        while self.sees(("+", "-")):
            kind = SUMS[self.take()]
            tree = (kind, tree, self.term())
        return tree

    def term(self):
        tree = self.factor()
        while self.sees(("*",)):
            self.take()
            tree = ("times", tree, self.factor())
        return tree

    def factor(self):
        tree = self.atom()
        if not self.sees(("^",)):
            return tree
        self.take()
        if not self.sees(POWERS):
            raise NoRow("a power is none of those from 2 to 6")
        return ("power", tree, int(self.take()))

    def atom(self):
        word = self.take()
        if word == "(":
            return self.bracket()
        if is_name(word):
            return ("name", word)
        number = number_of(word)
        return ("number", number[0], number[1])

    def bracket(self):
        self.depth += 1
        if self.depth > MOST_BRACKETS:
            raise NoRow("too many brackets are open")
        tree = self.expression()
        if self.take() != ")":
            raise NoRow("a bracket is not shut")
        self.depth -= 1
        return tree


def tree_of(words):
    if len(words) > MOST_WORDS:
        raise NoRow("an expression has too many words")
    reader = Reader(words)
    tree = reader.expression()
    if not reader.at_end():
        raise NoRow("an expression goes on behind its end")
    return tree
