"""Tasks with known answers, and what the document promises of a book for them."""

from fractions import Fraction
from itertools import permutations, product

from boxnarrow.spans import span_of
from boxnarrow.tasks import read
from tests.otherwise import exact_otherwise, worths_otherwise

FAR = 10 ** 40


def root(number, many):
    """The many-th root, no more than 1/FAR too small: near enough, as no end of a span is as near to it."""
    low, high = 0, number * FAR
    while high - low > 1:
        middle = (low + high) // 2
        low, high = (middle, high) if middle ** many <= number * FAR ** many else (low, middle)
    return Fraction(low, FAR)


TWO = root(2, 2)
SIXTH = root(2, 6)
CIRCLE = ["x in -6 6", "y in -6 6", "x ^ 2 + y ^ 2 = 25"]
SQUARE = ["x in -3 3", "y in -3 3", "x ^ 2 + y ^ 2 = 4"]
# Each has the lines and all of its answers, one tuple of numbers for each.
TASKS = (
    (["x in 0 10", "x = 5"], [(5,)]),
    (["x in 0 10", "3 * x = 1"], [(Fraction(1, 3),)]),
    (["x in 5 5", "x = 5"], [(5,)]),
    (["x in 6 10", "x = 5"], []),
    (["x in -3 3", "x ^ 2 = 2"], [(TWO,), (-TWO,)]),
    (["x in -2 2", "x ^ 6 = 2"], [(SIXTH,), (-SIXTH,)]),
    (["x in -3 3", "x ^ 2 + 1 = 0"], []),
    (["x in 0 4", "( x - 1 ) * ( x - 2 ) * ( x - 3 ) = 0"], [(1,), (2,), (3,)]),
    (["x in 0 4", "( x - 2 ) ^ 2 = 0"], [(2,)]),
    (["x in 2 5", "x ^ 2 = 4"], [(2,)]),
    (["x in -2 2", "x ^ 3 = x"], [(-1,), (0,), (1,)]),
    (["x in -3 3", "let s = x ^ 2", "s ^ 2 - 5 * s + 4 = 0"], [(-2,), (-1,), (1,), (2,)]),
    (["x in -3 3", "let s = x ^ 2", "s ^ 2 - 5 * s + 4 = 0", "x >= -3/2"], [(-1,), (1,), (2,)]),
    (SQUARE + ["x = y"], [(TWO, TWO), (-TWO, -TWO)]),
    (SQUARE + ["x = y", "x >= 0"], [(TWO, TWO)]),
    (SQUARE + ["x + y = 4"], []),
    (CIRCLE + ["x = y + 1"], [(4, 3), (-3, -4)]),
    (CIRCLE + ["x * y = 12"], [(4, 3), (3, 4), (-3, -4), (-4, -3)]),
    (CIRCLE + ["x * y = 12", "x >= y", "3 >= y"], [(4, 3), (-3, -4)]),
    (["x in 0 10", "y in 0 10", "x * y = 6", "x + y = 5"], [(2, 3), (3, 2)]),
    (["x in 0 10", "y in 0 10", "x * y = 6", "x + y = 5", "x >= y"], [(3, 2)]),
    (["x in 2 10", "y in 0 3", "x * y = 6", "x + y = 5"], [(2, 3), (3, 2)]),
    (
        ["x in 0 4", "y in 0 4", "z in 0 4", "x + y + z = 6", "x * y * z = 6", "x * y + y * z + z * x = 11"],
        list(permutations((1, 2, 3))),
    ),
    (
        ["x in -9 9", "y in -9 9", "z in -9 9", "u in -9 9", "x + y = 3", "y + z = 5", "z + u = 7", "x * u = 4", "x >= 0"],
        [(1, 2, 3, 4), (4, -1, 6, 1)],
    ),
)
# Here there are more answers than can be told: a few of them, and a few points that are none.
WIDE_TASKS = (
    (["x in 0 5", "x >= 1", "3 >= x"], [(1,), (2,), (3,), (Fraction(7, 3),)], [(0,), (5,), (Fraction(99, 100),)]),
    (["x in 0 1", "y in 1/3 1/2"], [(0, Fraction(1, 3)), (1, Fraction(1, 2)), (Fraction(1, 7), Fraction(2, 5))], []),
    (CIRCLE, [(3, 4), (5, 0), (0, -5), (-4, 3), (1, root(24, 2))], [(0, 0), (4, 4), (6, 6)]),
    (["x in -6 6", "y in -6 6", "25 >= x ^ 2 + y ^ 2"], [(3, 4), (0, 0), (1, 1), (-5, 0)], [(4, 4), (-6, 0)]),
    (["x in 0 8", "y in 0 8", "x * y = 8"], [(1, 8), (8, 1), (2, 4), (TWO, 4 * TWO)], [(0, 0), (8, 8), (2, 2)]),
    (["x in -2 2", "y in -2 2", "x * y = 0"], [(0, 0), (0, 1), (-2, 0), (Fraction(1, 3), 0)], [(1, 1), (-2, 2)]),
    (["x in 0 3", "y in 0 3", "x + y = 3", "2 * x + 2 * y = 6"], [(0, 3), (1, 2), (TWO, 3 - TWO)], [(0, 0), (3, 3)]),
    (["x in -1 1", "y in -1 1", "z in -1 1", "1/2 >= x ^ 2 + y ^ 2 + z ^ 2"], [(0, 0, 0), (Fraction(1, 2), Fraction(1, 2), 0)], [(1, 1, 1)]),
)


def asked(lines, grid):
    """The net, the rows and the box of a task."""
    task = read(lines)
    return task.nodes(), task.rows(), [span_of(low, high, grid) for low, high in task.ends()]


def lies_in(box, answer, grid):
    return all(low <= number * grid <= high for (low, high), number in zip(box, answer, strict=True))


def lies_deep_in(box, answer, grid):
    return all(low < number * grid < high for (low, high), number in zip(box, answer, strict=True))


def points_of(box, grid):
    """Corners, and a few points between."""
    numbers = [sorted({Fraction(place, grid) for place in (low, high, (low + high) // 2, low + Fraction(high - low, 3))}) for low, high in box]
    return list(product(*numbers))


def meets(nodes, rows, point):
    pairs = [Fraction(number).as_integer_ratio() for number in point]
    return all(
        worth == 0 if word == "zero" else worth >= 0
        for word, worth in ((word, exact_otherwise(nodes, at, pairs)) for word, at in rows)
    )


def check_answers(case, book, grid, answers):
    """Fails unless each answer lies in an entry that is told, and in none told out."""
    for answer in answers:
        there = {fate[0] for box, fate in book if fate[0] != "cut" and lies_in(box, answer, grid)}
        case.assertNotEqual(there, set(), answer)
        case.assertNotIn("out", there, answer)


def check_ones(case, book, grid, answers):
    """Fails unless in each entry told one there is just one of all the answers, and it lies on none of its faces."""
    for box, fate in book:
        if fate[0] == "one":
            case.assertEqual([lies_deep_in(box, answer, grid) for answer in answers if lies_in(box, answer, grid)], [True], box)
    words = [fate[0] for box, fate in book]
    case.assertGreaterEqual(len(answers), words.count("one"))
    if set(words) <= {"cut", "one", "out"}:
        case.assertEqual(len(answers), words.count("one"))


def check_entries(case, nodes, rows, grid, book):
    """Fails unless what is told of full and of out by their papers is so."""
    for box, fate in book:
        if fate[0] == "full":
            case.assertEqual([point for point in points_of(box, grid) if not meets(nodes, rows, point)], [], box)
        if fate[0] == "out":
            word, at = rows[fate[1]]
            low, high = fate[2][at]
            case.assertTrue(high < 0 or word == "zero" and low > 0)
            case.assertEqual([point for point in points_of(box, grid) if meets(nodes, rows, point)], [], box)


def check_smalls(case, nodes, rows, grid, fine, book):
    """Fails unless those told small are small and barred by no row."""
    for box, fate in book:
        if fate[0] == "small":
            case.assertLessEqual(max(high - low for low, high in box), fine)
            spans = worths_otherwise(nodes, box, grid)
            for word, at in rows:
                case.assertTrue(spans[at][1] >= 0 and (word == "least" or spans[at][0] <= 0))
