"""Books that the search didn't make: right ones, made in another way, and ones with something changed in them."""

from boxnarrow.alone import alone
from boxnarrow.kinds import kind_of
from boxnarrow.worths import bars, sure, worths
from tests.otherwise_books import middles_otherwise

HUGE = 10 ** 999


def wider(chance, span, most):
    return (span[0] - chance.randint(0, most), span[1] + chance.randint(0, most))


def claimed(chance, nodes, box, grid, most):
    """A right claim of spans for the nodes: each as wide as it is to be, or up to most steps wider at each end."""
    spans = []
    for node in nodes:
        spans.append(wider(chance, kind_of(node).forth(spans, box, grid), most))
    return spans


def claimed_slopes(chance, nodes, box, grid, spans, most):
    slopes = []
    for node in nodes:
        due = kind_of(node).slope(spans, slopes, len(box), grid)
        slopes.append([wider(chance, span, most) for span in due])
    return slopes


def one_by_chance(chance, nodes, rows, box, grid):
    """A fate for a box that is alone, with claims and a near that are perhaps wider than they are to be."""
    turn, near = alone(nodes, rows, box, grid)
    most = chance.choice((0, 0, 1, 3))
    spans = claimed(chance, nodes, box, grid, most)
    thin = claimed(chance, nodes, middles_otherwise(box), grid, most)
    near = [(chance.randint(old[0] + 1, new[0]), chance.randint(new[1], old[1] - 1)) for new, old in zip(near, box)]
    turn = [[entry + chance.choice((0, 0, 0, 1, -1)) for entry in row] for row in turn]
    return ("one", turn, near, spans, thin, claimed_slopes(chance, nodes, box, grid, spans, most))


def leaf_fate(chance, nodes, rows, box, grid):
    spans = worths(nodes, box, grid)
    barring = [r for r, (word, at) in enumerate(rows) if bars(word, spans[at])]
    most = chance.choice((0, 0, 1, 3))
    if barring:
        r = chance.choice(barring)
        return ("out", r, claimed(chance, nodes[:rows[r][1] + 1], box, grid, most))
    if all(sure(word, spans[at]) for word, at in rows):
        return ("full", claimed(chance, nodes, box, grid, most))
    if alone(nodes, rows, box, grid) is not None:
        return one_by_chance(chance, nodes, rows, box, grid)
    return chance.choice((("small",), ("waits",)))


def tree_by_chance(chance, nodes, rows, box, grid, depth):
    """A box, and the fate of it; for a cut the two trees of its parts stand in the places of their numbers."""
    wide = [k for k, (low, high) in enumerate(box) if high - low > 1]
    if depth == 0 or not wide or chance.random() < 0.15:
        return (box, leaf_fate(chance, nodes, rows, box, grid))
    k = chance.choice(wide)
    low, high = box[k]
    place = chance.choice((low + 1, high - 1, (low + high) // 2, chance.randint(low + 1, high - 1)))
    parts = [
        tree_by_chance(chance, nodes, rows, [*box[:k], span, *box[k + 1:]], grid, depth - 1)
        for span in ((low, place), (place, high))
    ]
    return (box, ("cut", k, place, *parts))


def book_of_tree(chance, tree):
    """The book of a tree, its entries numbered by chance, but each behind the one that was cut."""
    open_trees, order = [tree], []
    while open_trees:
        box, fate = open_trees.pop(chance.randrange(len(open_trees)))
        order.append((box, fate))
        if fate[0] == "cut":
            open_trees += fate[3:]
    numbers = {id(box): number for number, (box, fate) in enumerate(order)}
    return [
        (list(box), (*fate[:3], *(numbers[id(part[0])] for part in fate[3:])) if fate[0] == "cut" else fate)
        for box, fate in order
    ]


def book_by_chance(chance, nodes, rows, box, grid, depth=4):
    return book_of_tree(chance, tree_by_chance(chance, nodes, rows, list(box), grid, depth))


def is_span(value):
    return isinstance(value, tuple) and len(value) == 2 and isinstance(value[0], int)


def changed_number(chance, number):
    return chance.choice((number + 1, number - 1, -number, 0, HUGE, -HUGE, number + 2, -1))


def changed_list(chance, value):
    value = list(value)
    way = chance.randrange(5)
    if way == 0 or not value:
        return value + ([value[-1]] if value else [(0, 0)])
    if way == 1:
        return value[:-1]
    if way == 2:
        return chance.sample(value, len(value))
    place = chance.randrange(len(value))
    if way == 3:
        return value[:place] + value[place + 1:]
    return [*value[:place], changed(chance, value[place]), *value[place + 1:]]


def changed(chance, value):
    """The value with one thing changed in it: still of the same kind."""
    if isinstance(value, int):
        return changed_number(chance, value)
    if isinstance(value, list):
        # Mostly something within it.
        if value and chance.random() < 0.8:
            place = chance.randrange(len(value))
            return [*value[:place], changed(chance, value[place]), *value[place + 1:]]
        return changed_list(chance, value)
    if is_span(value):
        end = chance.randrange(2)
        return tuple(sorted((value[end], changed_number(chance, value[1 - end]))))
    return (*value[:1], *changed_part(chance, value[1:])) if len(value) > 1 else chance.choice((("small",), ("waits",)))


def changed_part(chance, parts):
    place = chance.randrange(len(parts))
    return [*parts[:place], changed(chance, parts[place]), *parts[place + 1:]]


def changed_book(chance, book):
    """The book with one thing changed: an entry's box or fate, an entry too many or too few, or two in each other's place."""
    way = chance.random()
    place = chance.randrange(len(book))
    if way < 0.05:
        return book[:place] + book[place + 1:]
    if way < 0.1:
        return book + [book[place]]
    other = chance.randrange(len(book))
    new = list(book)
    if way < 0.15:
        new[place], new[other] = new[other], new[place]
    elif way < 0.2:
        new[place] = (book[place][0], book[other][1])
    elif way < 0.35:
        new[place] = (changed(chance, book[place][0]), book[place][1])
    else:
        new[place] = (book[place][0], changed(chance, book[place][1]))
    return new
