"""What several tests ask for."""

from copy import deepcopy

from boxnarrow import errors
from boxnarrow.tasks import read

REFUSALS = (
    errors.NoNumber, errors.NoSpan, errors.NoCut, errors.NoRow,
    errors.TooMuch, errors.NoTask, errors.NoBook, errors.NoName,
)

# 400 figures each; no number above 1 divides both (one is the other and 1).
LONG = 10 ** 399 + 7
LONGER = LONG + 1


def refused(case, error, call, *given):
    """Fails unless call(*given) is refused with the class error, and answers the refusal."""
    with case.assertRaises(ValueError) as caught:
        call(*given)
    refusal = caught.exception
    case.assertIsInstance(refusal, errors.BoxError)
    case.assertEqual([kind for kind in REFUSALS if isinstance(refusal, kind)], [error])
    return refusal


def is_int(value):
    return type(value) is int


def check_pair(case, value):
    """Fails unless value is a tuple of two plain ints."""
    case.assertIs(type(value), tuple)
    case.assertEqual([is_int(part) for part in value], [True, True])


def check_span(case, value):
    check_pair(case, value)
    case.assertLessEqual(value[0], value[1])


def check_tree(case, value):
    """Fails unless value is a tree of plain tuples, texts and ints."""
    case.assertIs(type(value), tuple)
    kind = value[0]
    case.assertIs(type(kind), str)
    if kind == "number":
        check_pair(case, value[1:])
    elif kind == "name":
        case.assertEqual([type(part) for part in value[1:]], [str])
    elif kind == "power":
        case.assertEqual(len(value), 3)
        check_tree(case, value[1])
        case.assertTrue(is_int(value[2]))
    else:
        case.assertIn(kind, ("plus", "minus", "times"))
        case.assertEqual(len(value), 3)
        check_tree(case, value[1])
        check_tree(case, value[2])


def check_spans(case, value, many):
    """Fails unless value is a list of so many spans."""
    case.assertIs(type(value), list)
    case.assertEqual(len(value), many)
    for span in value:
        check_span(case, span)


def check_tuples(case, value):
    """Fails unless value is a list of plain tuples, each of a text and then ints, as nodes and rows are."""
    case.assertIs(type(value), list)
    for part in value:
        case.assertIs(type(part), tuple)
        case.assertEqual([type(piece) for piece in part], [str] + [int] * (len(part) - 1))


def told(*lines):
    """The net and the rows of a task whose unknowns are x, y, z and u, as far as lines name them."""
    words = " ".join(lines).split(" ")
    names = "xyzu"[:max("xyzu".find(word) for word in words if len(word) == 1) + 1]
    task = read([f"{name} in 0 1" for name in names] + list(lines))
    return task.nodes(), task.rows()


def copied(matrix):
    return [list(row) for row in matrix]


def check_rows(case, value, many, check_row):
    """Fails unless value is a list of so many lists, each by itself, that check_row lets through."""
    case.assertIs(type(value), list)
    case.assertEqual(len(value), many)
    case.assertEqual(len({id(row) for row in value}), many)
    for row in value:
        case.assertIs(type(row), list)
        check_row(row)


def check_matrix(case, value, many):
    """Fails unless value is a matrix of so many rows and columns."""
    check_rows(case, value, many, lambda row: case.assertEqual([is_int(entry) for entry in row], [True] * many))


def check_slopes(case, value, nodes, many):
    """Fails unless value is a list of lists of spans, one list for each node, of so many spans each."""
    check_rows(case, value, nodes, lambda row: check_spans(case, row, many))


def check_fate(case, fate, many):
    """Fails unless fate is one of the six kinds of fates, for a box of so many spans."""
    case.assertIs(type(fate), tuple)
    case.assertIs(type(fate[0]), str)
    word, *more = fate
    if word == "cut":
        case.assertEqual([is_int(part) for part in more], [True] * 4)
    elif word == "out":
        case.assertEqual([is_int(more[0]), len(more)], [True, 2])
        check_spans(case, more[1], len(more[1]))
    elif word == "full":
        case.assertEqual(len(more), 1)
        check_spans(case, more[0], len(more[0]))
    elif word == "one":
        turn, near, spans, thin, slopes = more
        check_matrix(case, turn, many)
        check_spans(case, near, many)
        check_spans(case, spans, len(spans))
        check_spans(case, thin, len(spans))
        check_slopes(case, slopes, len(spans), many)
    else:
        case.assertIn(fate, (("small",), ("waits",)))


def lists_in(value):
    """All lists in a value, itself and those within lists and tuples too."""
    found = [value] if isinstance(value, list) else []
    if isinstance(value, (list, tuple)):
        for part in value:
            found += lists_in(part)
    return found


def check_own(case, value, *given):
    """Fails unless no list of value is there twice, and none is one of those in given."""
    ids = [id(part) for part in lists_in(value)]
    case.assertEqual(len(ids), len(set(ids)))
    case.assertEqual(set(ids) & {id(part) for part in lists_in(list(given))}, set())


def check_book(case, book, many):
    """Fails unless book is a list of entries with boxes of so many spans."""
    case.assertIs(type(book), list)
    for entry in book:
        case.assertEqual([type(entry), len(entry)], [tuple, 2])
        check_spans(case, entry[0], many)
        check_fate(case, entry[1], many)
    check_own(case, book)


def unchanged(case, call, *given):
    """What call(*given) answers; fails where it changes what is given, or answers with a list that was given."""
    kept = deepcopy(given)
    answer = call(*given)
    case.assertEqual(given, kept)
    check_own(case, answer, *given)
    return answer
