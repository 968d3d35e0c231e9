"""The desk: a task, its settings and its book, told line by line; each line is answered with texts."""

from boxnarrow.alone import picked
from boxnarrow.errors import NoBook, NoRow, NoTask
from boxnarrow.fractions import fraction
from boxnarrow.islands import counts, islands, told
from boxnarrow.looker import right_book
from boxnarrow.search import leaf_of, search
from boxnarrow.spans import span_of
from boxnarrow.tasks import Task, words_of
from boxnarrow.words import number_of, written

BOUNDS = {"grid": (1, 1000000), "fine": (1, 999999999), "looks": (0, 300)}
WORDS_ALONE = ("solve", "boxes", "right", "islands")
COUNTED = ("ones", "fulls", "smalls", "waits", "outs")


def setting_of(words):
    if len(words) != 2:
        raise NoRow("a setting is one word and one number")
    number = number_of(words[1])
    bounds = BOUNDS[words[0]]
    if number[1] != 1 or not bounds[0] <= number[0] <= bounds[1]:
        raise NoRow("a setting is out of its bounds")
    return number[0]


def span_text(name, span, grid):
    low = written(fraction(span[0], grid))
    high = written(fraction(span[1], grid))
    return f"{name} {low} {high}"


class Desk:
    def __init__(self):
        self.task = Task()
        self.settings = {"grid": 64, "fine": 16, "looks": 60}
        # None stands in the place of a book that was not made yet, or is gone.
        self.book = None

    def tell(self, line):
        words = words_of(line)
        if words[0] in BOUNDS:
            return self.change(line, words)
        if words[0] == "point":
            return self.show_point(words)
        if words[0] not in WORDS_ALONE:
            return self.tell_task(line)
        if len(words) != 1:
            raise NoRow("a line has a word too many")
        return self.tell_word(line)

    def tell_word(self, word):
        if word == "solve":
            return self.solve()
        if word == "boxes":
            return self.show_boxes()
        if word == "right":
            return self.show_right()
        return self.show_islands()

    def tell_task(self, line):
        word = self.task.tell(line)
        self.book = None
        if word == "part":
            return [word]
        many = len(self.task.names()) if word == "unknown" else len(self.task.rows())
        number = many - 1
        return [f"{word} {number}"]

    def change(self, line, words):
        self.settings[words[0]] = setting_of(words)
        self.book = None
        return [line]

    def whole_box(self):
        grid = self.settings["grid"]
        return [span_of(ends[0], ends[1], grid) for ends in self.task.ends()]

    def solve(self):
        box = self.whole_box()
        if len(box) == 0:
            raise NoTask("there is no unknown")
        settings = self.settings
        nodes = self.task.nodes()
        self.book = search(nodes, self.task.rows(), box, settings["grid"], settings["fine"], settings["looks"])
        return [f"{word} {many}" for word, many in zip(COUNTED, counts(self.book))]

    def made_book(self):
        if self.book is None:
            raise NoBook("there is no book")
        return self.book

    def with_spans(self, words, box):
        grid = self.settings["grid"]
        return " ".join(words + [span_text(name, span, grid) for name, span in zip(self.task.names(), box)])

    def show_boxes(self):
        return [self.with_spans([entry[1], str(entry[0])], entry[2]) for entry in told(self.made_book())]

    def show_point(self, words):
        if len(words) - 1 != len(self.task.names()):
            raise NoRow("a point has one number for each unknown")
        point = [number_of(word) for word in words[1:]]
        book = self.made_book()
        number = leaf_of(book, point, self.settings["grid"])
        if number is None:
            return ["outside"]
        fate = book[number][1]
        if fate[0] == "out":
            r = fate[1]
            return [f"out {r}"]
        return [fate[0]]

    def show_right(self):
        book = self.made_book()
        is_right = right_book(self.task.nodes(), self.task.rows(), self.whole_box(), self.settings["grid"], book)
        return ["right" if is_right else "wrong"]

    def show_islands(self):
        shown = told(self.made_book())
        numbers = [str(entry[0]) for entry in shown]
        found = islands([entry[2] for entry in shown])
        return [self.with_spans(picked(numbers, island[0]), island[1]) for island in found]
