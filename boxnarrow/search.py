"""The search: a box is shaved, looked at and cut, part by part, and a book is kept of it; and the leaf of a point.

A book is a list of entries (box, fate). A fate is a tuple whose first word is "cut", "out", "full", "one", "small" or
"waits".
"""

from boxnarrow.alone import alone, box_of_middles
from boxnarrow.fractions import fraction, less
from boxnarrow.shaving import shaves, with_span
from boxnarrow.sloping import slopes
from boxnarrow.spans import holds, middle, width
from boxnarrow.worths import bars, sure, worths


def widths(box):
    return [width(span) for span in box]


def widest(box):
    return max(widths(box), default=0)


class Book:
    def __init__(self, box):
        self.boxes = [list(box)]
        # While an entry waits None stands in the place of its fate.
        self.fates = [None]

    def put_entry(self, box):
        self.boxes.append(box)
        self.fates.append(None)
        return len(self.boxes) - 1

    def settle(self, number, fate):
        self.fates[number] = fate

    def part(self, number, k, place):
        box = self.boxes[number]
        span = box[k]
        a = self.put_entry(with_span(box, k, (span[0], place)))
        b = self.put_entry(with_span(box, k, (place, span[1])))
        self.settle(number, ("cut", k, place, a, b))
        return (a, b)

    def to_look_at(self):
        waiting = [number for number, fate in enumerate(self.fates) if fate is None]
        # Of several that are as wide max tells the first, and that is the one with the least number.
        return max(waiting, key=lambda number: widest(self.boxes[number]), default=None)

    def entries(self):
        return [(box, ("waits",) if fate is None else fate) for box, fate in zip(self.boxes, self.fates)]


def out_by(nodes, rows, r, box, grid):
    at = rows[r][1]
    return ("out", r, worths(nodes[:at + 1], box, grid))


def shave(book, nodes, rows, grid, number):
    # Told is the entry that is left in the place of the first one: where a row bars all of it, it has its fate.
    for r, row in enumerate(rows):
        found = shaves(nodes, row, book.boxes[number], grid)
        if found[1] is None:
            book.settle(number, out_by(nodes, rows, r, book.boxes[number], grid))
            return number
        for cut in found[0]:
            parts = book.part(number, cut[0], cut[1])
            thrown = parts[cut[2]]
            book.settle(thrown, out_by(nodes, rows, r, book.boxes[thrown], grid))
            number = parts[1 - cut[2]]
    return number


def fate_by_rows(nodes, rows, box, grid, spans):
    for r, row in enumerate(rows):
        if bars(row[0], spans[row[1]]):
            return out_by(nodes, rows, r, box, grid)
    if all([sure(row[0], spans[row[1]]) for row in rows]):
        return ("full", spans)
    return None


def fate_of_one(nodes, rows, box, grid, spans):
    found = alone(nodes, rows, box, grid)
    if found is None:
        return None
    thin = worths(nodes, box_of_middles(box), grid)
    return ("one", found[0], found[1], spans, thin, slopes(nodes, box, grid))


def fate_of(nodes, rows, box, grid, fine):
    spans = worths(nodes, box, grid)
    fate = fate_by_rows(nodes, rows, box, grid, spans)
    if fate is None:
        fate = fate_of_one(nodes, rows, box, grid, spans)
    if fate is None and widest(box) <= fine:
        return ("small",)
    return fate


def is_much_less(box, began):
    return 4 * sum(widths(box)) <= 3 * sum(widths(began))


def cut_in_the_middle(book, number):
    box = book.boxes[number]
    k = widths(box).index(widest(box))
    book.part(number, k, middle(box[k]))


def look(book, nodes, rows, grid, fine, number):
    began = book.boxes[number]
    number = shave(book, nodes, rows, grid, number)
    if book.fates[number] is not None:
        return
    box = book.boxes[number]
    fate = fate_of(nodes, rows, box, grid, fine)
    if fate is not None:
        book.settle(number, fate)
    elif not is_much_less(box, began):
        cut_in_the_middle(book, number)


def search(nodes, rows, box, grid, fine, looks):
    book = Book(box)
    for time in range(looks):
        number = book.to_look_at()
        if number is None:
            break
        look(book, nodes, rows, grid, fine, number)
    return book.entries()


def is_in(box, point, grid):
    return all([holds(span, number, grid) for span, number in zip(box, point)])


def leaf_of(book, point, grid):
    if not is_in(book[0][0], point, grid):
        return None
    number = 0
    fate = book[0][1]
    while fate[0] == "cut":
        is_above = less(fraction(fate[2], grid), point[fate[1]])
        number = fate[4] if is_above else fate[3]
        fate = book[number][1]
    return number
