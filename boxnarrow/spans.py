"""Spans: tuples (low, high) of whole steps of the grid, told as the least ones."""

from boxnarrow.errors import NoCut, NoSpan
from boxnarrow.fractions import less, raised


def rounded_up(top, bottom):
    return -(-top // bottom)


def span_of(low, high, grid):
    if less(high, low):
        raise NoSpan("the second fraction is less than the first")
    return (low[0] * grid // low[1], rounded_up(high[0] * grid, high[1]))


def holds(span, a, grid):
    # Both sides are multiplied by the bottom, so that nothing has to be rounded.
    return span[0] * a[1] <= a[0] * grid <= span[1] * a[1]


def add_spans(a, b):
    return (a[0] + b[0], a[1] + b[1])


def take_spans(a, b):
    return (a[0] - b[1], a[1] - b[0])


def mul_spans(a, b, grid):
    # With one number kept, a product is greatest and least at an end of the other's span.
    products = [a[0] * b[0], a[0] * b[1], a[1] * b[0], a[1] * b[1]]
    return (min(products) // grid, rounded_up(max(products), grid))


def raise_span(a, many, grid):
    # On each side of 0 powers only rise or only fall, so they are greatest and least at the ends or at 0.
    places = [a[0], a[1]]
    if a[0] < 0 < a[1]:
        places.append(0)
    # Rounded once, at last: products one after the other would round at each and might come out wider.
    powers = [raised(place, many) * grid for place in places]
    bottom = raised(grid, many)
    return (min(powers) // bottom, rounded_up(max(powers), bottom))


def scale_span(a, many):
    # A number below 0 turns the ends round.
    return (min(a[0] * many, a[1] * many), max(a[0] * many, a[1] * many))


def common(a, b):
    low = max(a[0], b[0])
    high = min(a[1], b[1])
    if low > high:
        return None
    return (low, high)


def hull(a, b):
    return (min(a[0], b[0]), max(a[1], b[1]))


def inside(a, b):
    return b[0] <= a[0] and a[1] <= b[1]


def deep(a, b):
    return b[0] < a[0] and a[1] < b[1]


def width(a):
    return a[1] - a[0]


def middle(a):
    return (a[0] + a[1]) // 2


def halves(a):
    if width(a) < 2:
        raise NoCut("a span that is less than 2 steps wide has no step between its ends")
    place = middle(a)
    return ((a[0], place), (place, a[1]))
