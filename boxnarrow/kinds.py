"""The kinds of nodes: what each makes of its parts, what the way back makes of them, and the slope for each unknown."""

from boxnarrow.backs import back_power, back_times
from boxnarrow.fractions import minus, plus, power, times
from boxnarrow.spans import add_spans, common, mul_spans, raise_span, scale_span, span_of, take_spans


class Node:
    pass


class Number(Node):
    def __init__(self, top, bottom):
        self.top = top
        self.bottom = bottom

    def exact(self, worths, point):
        return (self.top, self.bottom)

    def forth(self, spans, box, grid):
        number = (self.top, self.bottom)
        return span_of(number, number, grid)

    def back(self, spans, here, grid):
        return []

    def slope(self, spans, slants, unknowns, grid):
        return [(0, 0)] * unknowns


class Unknown(Node):
    def __init__(self, place):
        self.place = place

    def exact(self, worths, point):
        return point[self.place]

    def forth(self, spans, box, grid):
        return box[self.place]

    def back(self, spans, here, grid):
        return []

    def slope(self, spans, slants, unknowns, grid):
        return [(grid, grid) if k == self.place else (0, 0) for k in range(unknowns)]


class Pair(Node):
    def __init__(self, one, other):
        self.one = one
        self.other = other

    def back(self, spans, here, grid):
        x = self.first_left(here, spans[self.one], spans[self.other], grid)
        if x is None:
            return None
        # A node with itself has one span alone: the first step made it narrower for both.
        y = x if self.one == self.other else spans[self.other]
        y = self.second_left(here, x, y, grid)
        if y is None:
            return None
        return [(self.one, x), (self.other, y)]

    def slope(self, spans, slants, unknowns, grid):
        x = spans[self.one]
        y = spans[self.other]
        return [self.slope_of_both(x, y, a, b, grid) for a, b in zip(slants[self.one], slants[self.other])]


class Plus(Pair):
    def exact(self, worths, point):
        return plus(worths[self.one], worths[self.other])

    def forth(self, spans, box, grid):
        return add_spans(spans[self.one], spans[self.other])

    def first_left(self, here, x, y, grid):
        return common(x, take_spans(here, y))

    def second_left(self, here, x, y, grid):
        return common(y, take_spans(here, x))

    def slope_of_both(self, x, y, a, b, grid):
        return add_spans(a, b)


class Minus(Pair):
    def exact(self, worths, point):
        return minus(worths[self.one], worths[self.other])

    def forth(self, spans, box, grid):
        return take_spans(spans[self.one], spans[self.other])

    def first_left(self, here, x, y, grid):
        return common(x, add_spans(here, y))

    def second_left(self, here, x, y, grid):
        return common(y, take_spans(x, here))

    def slope_of_both(self, x, y, a, b, grid):
        return take_spans(a, b)


class Times(Pair):
    def exact(self, worths, point):
        return times(worths[self.one], worths[self.other])

    def forth(self, spans, box, grid):
        return mul_spans(spans[self.one], spans[self.other], grid)

    def first_left(self, here, x, y, grid):
        return back_times(here, x, y, grid)

    def second_left(self, here, x, y, grid):
        return back_times(here, y, x, grid)

    def slope_of_both(self, x, y, a, b, grid):
        return add_spans(mul_spans(x, b, grid), mul_spans(y, a, grid))


class Power(Node):
    def __init__(self, one, many):
        self.one = one
        self.many = many

    def exact(self, worths, point):
        return power(worths[self.one], self.many)

    def forth(self, spans, box, grid):
        return raise_span(spans[self.one], self.many, grid)

    def back(self, spans, here, grid):
        x = back_power(here, spans[self.one], self.many, grid)
        if x is None:
            return None
        return [(self.one, x)]

    def slope(self, spans, slants, unknowns, grid):
        # For a square this is the worth itself: no first power is rounded.
        lower = raise_span(spans[self.one], self.many - 1, grid)
        steep = scale_span(lower, self.many)
        return [mul_spans(steep, a, grid) for a in slants[self.one]]


def kind_of(node):
    if node[0] == "number":
        return Number(node[1], node[2])
    if node[0] == "unknown":
        return Unknown(node[1])
    if node[0] == "plus":
        return Plus(node[1], node[2])
    if node[0] == "minus":
        return Minus(node[1], node[2])
    if node[0] == "times":
        return Times(node[1], node[2])
    return Power(node[1], node[2])
