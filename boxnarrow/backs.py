"""The way back through a product and through a power.

A place on the line is told as a pair: the last whole step that is not above it, the first that is not below it.
So places that are no whole number of steps, roots that are no fractions among them, ask for whole numbers alone.
"""

from boxnarrow.fractions import raised
from boxnarrow.spans import hull, rounded_up


def holds_nought(span):
    return span[0] <= 0 <= span[1]


def opposite(pair):
    return (-pair[1], -pair[0])


def joined(one, other):
    if one is None:
        return other
    if other is None:
        return one
    return hull(one, other)


def part_between(x, low, high):
    # The ends of x are whole steps, so a place lies beyond one just where the step next to it does.
    if low[1] > x[1] or high[0] < x[0]:
        return None
    return (max(low[0], x[0]), min(high[1], x[1]))


def quotient(top, bottom):
    return (top // bottom, rounded_up(top, bottom))


def back_by_side(products, x, y):
    # Nothing of y is below 0. A quotient above 0 is least by the far end of y, one below 0 by the near end.
    low_by = y[1] if products[0] > 0 else y[0]
    high_by = y[1] if products[1] < 0 else y[0]
    # Towards a near end of 0 the quotients go on beyond each bound, so x alone bounds them there.
    low = (x[0], x[0]) if low_by == 0 else quotient(products[0], low_by)
    high = (x[1], x[1]) if high_by == 0 else quotient(products[1], high_by)
    return part_between(x, low, high)


def back_times(z, x, y, grid):
    if holds_nought(y) and holds_nought(z):
        return x
    products = (z[0] * grid, z[1] * grid)
    left = None
    if y[1] > 0:
        left = back_by_side(products, x, (max(y[0], 0), y[1]))
    if y[0] < 0:
        # With the signs of y and of z turned, x stays what it is.
        turned = back_by_side(opposite(products), x, (max(-y[1], 0), -y[0]))
        left = joined(left, turned)
    return left


def root_below(number, many):
    if number == 0:
        return 0
    # Newton's steps, begun above the root, fall until they are there and never fall below it.
    guess = 1 << (number.bit_length() // many + 1)
    better = next_guess(guess, number, many)
    while better < guess:
        guess = better
        better = next_guess(guess, number, many)
    return guess


def next_guess(guess, number, many):
    return ((many - 1) * guess + number // raised(guess, many - 1)) // many


def root(number, many):
    if number < 0:
        return opposite(root(-number, many))
    below = root_below(number, many)
    if raised(below, many) == number:
        return (below, below)
    return (below, below + 1)


def back_power(z, x, many, grid):
    scale = raised(grid, many - 1)
    powers = (z[0] * scale, z[1] * scale)
    if many % 2 == 1:
        return part_between(x, root(powers[0], many), root(powers[1], many))
    if powers[1] < 0:
        return None
    low = root(max(powers[0], 0), many)
    high = root(powers[1], many)
    return joined(part_between(x, low, high), part_between(x, opposite(high), opposite(low)))
