"""Fractions: tuples (top, bottom) in lowest terms, bottom from 1 on."""

from boxnarrow.errors import NoNumber


def is_whole(value):
    # True and False are ints for Python, but no whole numbers here.
    return isinstance(value, int) and not isinstance(value, bool)


def greatest_divisor(one, other):
    while other != 0:
        rest = one % other
        one = other
        other = rest
    return one


def raised(number, many):
    worth = 1
    for step in range(many):
        worth = worth * number
    return worth


def fraction(top, bottom):
    if not is_whole(top) or not is_whole(bottom) or bottom == 0:
        raise NoNumber("a fraction is made of two whole numbers, the second not 0")
    divisor = greatest_divisor(abs(top), abs(bottom))
    # A divisor below 0 turns both signs, so that the bottom comes out above 0.
    if bottom < 0:
        divisor = -divisor
    return (top // divisor, bottom // divisor)


def plus(a, b):
    return fraction(a[0] * b[1] + b[0] * a[1], a[1] * b[1])


def minus(a, b):
    return fraction(a[0] * b[1] - b[0] * a[1], a[1] * b[1])


def times(a, b):
    return fraction(a[0] * b[0], a[1] * b[1])


def power(a, many):
    # Powers of two numbers have no divisor in common where the numbers have none.
    return (raised(a[0], many), raised(a[1], many))


def less(a, b):
    return a[0] * b[1] < b[0] * a[1]
