"""Nets, boxes and points by chance, each time the same for the same seed."""

from fractions import Fraction

from tests.otherwise import exact_otherwise, node_in, weight_otherwise

GRIDS = (1, 2, 7, 64, 1000000)
FIFTEEN = 10 ** 14 + 7
NUMBERS = ((0, 1), (1, 1), (-1, 1), (2, 1), (-3, 1), (1, 2), (-2, 3), (7, 5), (22, 7), (999999999, 999999998))


def node_by_chance(chance, unknowns, stand):
    """A node for a net of so many unknowns in which so many nodes stand."""
    kind = chance.choice(("number", "unknown", "plus", "minus", "times", "times", "power"))
    if kind == "unknown":
        return ("unknown", chance.randrange(unknowns))
    if kind == "number" or stand == 0:
        return ("number", *chance.choice(NUMBERS))
    if kind == "power":
        return ("power", chance.randrange(stand), chance.randint(2, 6))
    return (kind, chance.randrange(stand), chance.randrange(stand))


def net_by_chance(chance, unknowns, most=14, weight=16):
    """A net of one to most nodes, each of at most that weight; perhaps it has not all of the unknowns."""
    nodes = []
    for time in range(chance.randint(1, most)):
        node = node_by_chance(chance, unknowns, len(nodes))
        if node not in nodes and weight_otherwise(nodes + [node], len(nodes)) <= weight:
            nodes.append(node)
    return nodes


def box_by_chance(chance, many, far):
    return [tuple(sorted(chance.randint(-far, far) for end in range(2))) for span in range(many)]


def point_by_chance(chance, box, grid):
    """A point of the box: for each unknown at an end, on a step, or anywhere between the ends."""
    point = []
    for low, high in box:
        places = (low, high, chance.randint(low, high), low + (high - low) * Fraction(chance.randint(0, 99), 99))
        point.append((Fraction(chance.choice(places)) / grid).as_integer_ratio())
    return point


def asked_by_chance(chance, weight=16):
    """A net, a box and a grid, near nought or with ends of up to fifteen figures."""
    many = chance.randint(1, 4)
    nodes = net_by_chance(chance, many, weight=weight)
    return nodes, box_by_chance(chance, many, chance.choice((3, 100, FIFTEEN))), chance.choice(GRIDS)


def bent_equation(chance, nodes, k, point):
    """Puts an equation to nodes that is met at the point: mostly the k-th unknown's, with some of the others."""
    many = len(point)
    unknowns = [node_in(nodes, ("unknown", place)) for place in range(many)]
    total = None
    for place in range(many):
        factor = node_in(nodes, ("number", chance.choice((5, 7, -8)) if place == k else chance.choice((0, 1, -1)), 1))
        term = node_in(nodes, ("times", factor, unknowns[place]))
        total = term if total is None else node_in(nodes, ("plus", total, term))
    bend = chance.choice((("power", chance.choice(unknowns), chance.randint(2, 3)), ("times", *chance.choices(unknowns, k=2))))
    total = node_in(nodes, (chance.choice(("plus", "minus")), total, node_in(nodes, bend)))
    there = node_in(nodes, ("number", *exact_otherwise(nodes, total, point).as_integer_ratio()))
    return node_in(nodes, ("minus", total, there))


def bent_by_chance(chance, wide, grids=(64, 1000, 1000000)):
    """A net, equations that are met at a point, a box of at most so many steps on each side of it, a grid, the point."""
    many = chance.randint(1, 4)
    grid = chance.choice(grids)
    centre = [chance.randint(-grid, grid) // chance.choice((1, 2, 8)) for k in range(many)]
    point = [Fraction(place, grid).as_integer_ratio() for place in centre]
    nodes = []
    rows = [("zero", bent_equation(chance, nodes, k, point)) for k in range(many)]
    box = [(place - chance.randint(0, wide), place + chance.randint(0, wide)) for place in centre]
    return nodes, rows, box, grid, point


def rows_by_chance(chance, nodes, many):
    return [(chance.choice(("zero", "least")), chance.randrange(len(nodes))) for time in range(many)]


def searched_by_chance(chance, looks=(0, 1, 2, 5, 20)):
    """What a search is told: a net, rows, a box, a grid, how wide a small box is, and how many looks there are."""
    if chance.random() < 0.5:
        many = chance.randint(1, 4)
        nodes = net_by_chance(chance, many, weight=6)
        rows = rows_by_chance(chance, nodes, chance.choice((0, 1, 1, 2, 2, 3, 12)))
        box, grid = box_by_chance(chance, many, chance.choice((1, 5, 40))), chance.choice((1, 2, 7, 16))
    else:
        nodes, rows, box, grid, point = bent_by_chance(chance, chance.choice((2, 9, 60)), grids=(16, 64, 256))
        rows += rows_by_chance(chance, nodes, chance.choice((0, 0, 0, 1, 2)))
        chance.shuffle(rows)
    return nodes, rows, box, grid, chance.choice((1, 1, 3, 10)), chance.choice(looks)
