"""Second reckonings: what the program answers, found in another way, to be held against it."""

import re
from fractions import Fraction
from itertools import permutations
from math import ceil, floor, gcd, prod
from operator import add, mul, sub

KINDS = {"+": "plus", "-": "minus", "*": "times"}
KEPT = ("let", "in", "grid", "fine", "looks", "solve", "boxes", "point", "right", "islands")
MAKERS = {"plus": add, "minus": sub, "times": mul}
NUMBER = re.compile(r"(?P<top>0|-?[1-9][0-9]{0,8})(/(?P<bottom>[1-9][0-9]{0,8}))?")
NAME = re.compile(r"[a-z]{1,8}")


# Words and trees.


def number_otherwise(word):
    """The pair of a number read, or None."""
    found = NUMBER.fullmatch(word)
    if found is None or found["bottom"] == "1":
        return None
    pair = (int(found["top"]), int(found["bottom"] or 1))
    return pair if gcd(*pair) == 1 else None


def name_otherwise(word):
    return NAME.fullmatch(word) is not None and word not in KEPT


def split_at(words, signs):
    """The last place, outside of all brackets, where one of signs stands; None where there is none."""
    depth = 0
    for place in reversed(range(len(words))):
        depth += (words[place] == ")") - (words[place] == "(")
        if depth == 0 and words[place] in signs:
            return place
    return None


def tree_otherwise(words):
    """The tree of words, or None, found from behind: what is made last is parted first. It knows no bounds."""
    place = split_at(words, ("+", "-"))
    if place is None:
        place = split_at(words, ("*",))
    if place is not None:
        parts = (tree_otherwise(words[:place]), tree_otherwise(words[place + 1:]))
        return None if None in parts else (KINDS[words[place]],) + parts
    if len(words) > 2 and words[-2] == "^":
        part = atom_otherwise(words[:-2])
        return ("power", part, int(words[-1])) if part and words[-1] in tuple("23456") else None
    return atom_otherwise(words)


def atom_otherwise(words):
    if len(words) > 2 and words[0] == "(" and words[-1] == ")":
        return tree_otherwise(words[1:-1])
    if len(words) != 1:
        return None
    if name_otherwise(words[0]):
        return ("name", words[0])
    number = number_otherwise(words[0])
    return None if number is None else ("number",) + number


def bounded_tree_otherwise(words):
    open_at = [words[:place].count("(") - words[:place].count(")") for place in range(len(words) + 1)]
    return tree_otherwise(words) if len(words) <= 120 and max(open_at) <= 16 else None


# Tasks: a state is never changed, each line that is taken makes a new one.


class Beyond(Exception):
    pass


NOTHING_TOLD = {"stands": {}, "names": [], "ends": [], "nodes": [], "rows": []}


def weight_otherwise(nodes, at):
    kind, *parts = nodes[at]
    if kind in ("number", "unknown"):
        return 1
    if kind == "power":
        return parts[1] * weight_otherwise(nodes, parts[0])
    return sum(weight_otherwise(nodes, part) for part in parts)


def node_in(nodes, node):
    """The number of a node, put to the list nodes where none is alike."""
    if node not in nodes:
        nodes.append(node)
        if len(nodes) > 60 or weight_otherwise(nodes, len(nodes) - 1) > 16:
            raise Beyond
    return nodes.index(node)


def tree_in(nodes, tree, stands):
    if tree[0] == "name":
        return stands[tree[1]]
    if tree[0] == "number":
        return node_in(nodes, tree)
    parts = [tree_in(nodes, part, stands) if isinstance(part, tuple) else part for part in tree[1:]]
    return node_in(nodes, (tree[0], *parts))


def line_otherwise(line):
    """What a line says: its answer, its new name or None, its trees, and what else it tells; None where nothing."""
    words = line.split(" ") if isinstance(line, str) else [""]
    if "" in words:
        return None
    if words[1:2] == ["in"]:
        ends = [number_otherwise(word) for word in words[2:]]
        if len(words) != 4 or not name_otherwise(words[0]) or None in ends:
            return None
        return ("unknown", words[0], [], ends) if Fraction(*ends[0]) <= Fraction(*ends[1]) else None
    if words[0] == "let":
        tree = bounded_tree_otherwise(words[3:])
        right = words[2:3] == ["="] and name_otherwise(words[1]) and tree is not None
        return ("part", words[1], [tree], None) if right else None
    signs = [place for place, word in enumerate(words) if word in ("=", ">=")]
    if len(signs) != 1:
        return None
    trees = [bounded_tree_otherwise(words[:signs[0]]), bounded_tree_otherwise(words[signs[0] + 1:])]
    return None if None in trees else ("row", None, trees, "zero" if words[signs[0]] == "=" else "least")


def names_in(tree):
    if tree[0] == "name":
        return [tree[1]]
    return [name for part in tree[1:] if isinstance(part, tuple) for name in names_in(part)]


def told_otherwise(state, line):
    """What a task answers to a line, or a tuple of the refusal's name and, of NoName, its word; and the new state."""
    said = line_otherwise(line)
    if said is None:
        return ("NoRow",), state
    answer, new, trees, more = said
    missing = [new] if new in state["stands"] else []
    missing += [name for tree in trees for name in names_in(tree) if name not in state["stands"]]
    if missing:
        return ("NoName", missing[0]), state
    grown = {key: value.copy() for key, value in state.items()}
    try:
        numbers = [tree_in(grown["nodes"], tree, state["stands"]) for tree in trees]
        if answer == "unknown":
            numbers = [node_in(grown["nodes"], ("unknown", len(grown["names"])))]
            grown["names"].append(new)
            grown["ends"].append(tuple(more))
        if answer == "row":
            grown["rows"].append((more, node_in(grown["nodes"], ("minus", *numbers))))
    except Beyond:
        return ("TooMuch",), state
    if new:
        grown["stands"][new] = numbers[0]
    if len(grown["names"]) > 4 or len(grown["rows"]) > 12:
        return ("TooMuch",), state
    return answer, grown


# Worths, with Python's own fractions in the place of steps.


def outward(numbers, grid):
    return (floor(min(numbers) * grid), ceil(max(numbers) * grid))


def forth_otherwise(node, spans, box, grid):
    kind, *parts = node
    if kind == "number":
        return outward([Fraction(*parts)], grid)
    if kind == "unknown":
        return box[parts[0]]
    first = [Fraction(end, grid) for end in spans[parts[0]]]
    if kind == "power":
        powers = [end ** parts[1] for end in first]
        return outward(powers + [0] * (first[0] < 0 < first[1]), grid)
    second = [Fraction(end, grid) for end in spans[parts[1]]]
    return outward([MAKERS[kind](a, b) for a in first for b in second], grid)


def worths_otherwise(nodes, box, grid):
    spans = []
    for node in nodes:
        spans.append(forth_otherwise(node, spans, box, grid))
    return spans


def exact_otherwise(nodes, at, point):
    """The exact worth of one node, as a fraction of Python's own."""
    kind, *parts = nodes[at]
    if kind == "number":
        return Fraction(*parts)
    if kind == "unknown":
        return Fraction(*point[parts[0]])
    first = exact_otherwise(nodes, parts[0], point)
    if kind == "power":
        return first ** parts[1]
    second = exact_otherwise(nodes, parts[1], point)
    return MAKERS[kind](first, second)


# The way back, by asking of each place where what is left could begin or end whether it is one that is left.


def left_of(x, places, meets):
    found = [place for place in [*x, *places] if x[0] <= place <= x[1] and meets(place)]
    return (floor(min(found)), ceil(max(found))) if found else None


def touch(a, b):
    return min(a) <= max(b) and min(b) <= max(a)


def times_otherwise(z, x, y, grid):
    products = (z[0] * grid, z[1] * grid)
    places = [Fraction(product, end) for product in products for end in y if end != 0]
    return left_of(x, places, lambda place: touch((place * y[0], place * y[1]), products))


def plus_otherwise(z, x, y):
    return left_of(x, [a - b for a in z for b in y], lambda place: touch((place + y[0], place + y[1]), z))


def minus_otherwise(z, x, y):
    return left_of(x, [a + b for a in z for b in y], lambda place: touch((place - y[0], place - y[1]), z))


def taken_otherwise(z, x, y):
    """What of y is left where x - y is to lie in z."""
    return left_of(y, [b - a for a in z for b in x], lambda place: touch((x[0] - place, x[1] - place), z))


def power_otherwise(z, x, many, grid):
    """The way back through the power, step by step of x: at the step itself, and between it and the next one."""
    scale = grid ** (many - 1)
    low, high = z[0] * scale, z[1] * scale
    ends = []
    for place in range(x[0], x[1] + 1):
        if low <= place ** many <= high:
            ends.append(place)
        if place < x[1]:
            # No step but 0 itself parts falling powers from rising ones, so between two steps they do one of both.
            powers = sorted([place ** many, (place + 1) ** many])
            if powers[0] < high and low < powers[1]:
                ends += [place, place + 1]
    if not ends:
        return None
    return (min(ends), max(ends))


def back_otherwise(node, spans, z, grid):
    """The way back of a node, as its object tells it."""
    kind, *parts = node
    if kind in ("number", "unknown"):
        return []
    one = parts[0]
    if kind == "power":
        x = power_otherwise(z, spans[one], parts[1], grid)
        return None if x is None else [(one, x)]
    other = parts[1]
    first = {
        "plus": plus_otherwise, "minus": minus_otherwise, "times": lambda z, x, y: times_otherwise(z, x, y, grid),
    }[kind]
    second = {
        "plus": lambda z, x, y: plus_otherwise(z, y, x), "minus": taken_otherwise,
        "times": lambda z, x, y: times_otherwise(z, y, x, grid),
    }[kind]
    x = first(z, spans[one], spans[other])
    if x is None:
        return None
    behind = {**dict(enumerate(spans)), one: x}
    y = second(z, behind[one], behind[other])
    return None if y is None else [(one, x), (other, y)]


def narrowed_otherwise(nodes, row, box, grid):
    word, at = row
    spans = worths_otherwise(nodes[:at + 1], box, grid)
    low, high = spans[at]
    low = max(low, 0)
    high = high if word == "least" else min(high, 0)
    if low > high:
        return None
    spans[at] = (low, high)
    for number in reversed(range(at + 1)):
        made = back_otherwise(nodes[number], spans, spans[number], grid)
        if made is None:
            return None
        spans = [dict(made).get(place, span) for place, span in enumerate(spans)]
    places = {node[1]: number for number, node in enumerate(nodes[:at + 1]) if node[0] == "unknown"}
    return [spans[places[k]] if k in places else span for k, span in enumerate(box)]


# Shaves, with the worths and the narrowed box that are reckoned otherwise.


def barred_otherwise(nodes, row, box, grid):
    low, high = worths_otherwise(nodes, box, grid)[row[1]]
    return high < 0 or row[0] == "zero" and low > 0


def shaves_otherwise(nodes, row, box, grid):
    if barred_otherwise(nodes, row, box, grid):
        return [], None
    wished = narrowed_otherwise(nodes, row, box, grid)
    cuts, left = [], dict(enumerate(box))
    for k, (low, high) in enumerate(wished or []):
        for side, place in enumerate((low - 1, high + 1)):
            parts = [(left[k][0], place), (place, left[k][1])]
            part = {**left, k: parts[side]}
            if parts[side][0] < parts[side][1] and barred_otherwise(nodes, row, list(part.values()), grid):
                cuts.append((k, place, side))
                left[k] = parts[1 - side]
    return cuts, list(left.values())


# Slopes, each node's for each unknown by itself, from the node down to its parts.


def made(kind, a, b, grid):
    """The sums, differences or products of two spans."""
    return forth_otherwise((kind, 0, 1), [a, b], [], grid)


def slope_otherwise(nodes, at, k, spans, grid):
    kind, *parts = nodes[at]
    if kind in ("number", "unknown"):
        return (grid, grid) if nodes[at] == ("unknown", k) else (0, 0)
    a = slope_otherwise(nodes, parts[0], k, spans, grid)
    x = spans[parts[0]]
    if kind == "power":
        lower = x if parts[1] == 2 else forth_otherwise(("power", 0, parts[1] - 1), [x], [], grid)
        return made("times", (lower[0] * parts[1], lower[1] * parts[1]), a, grid)
    b = slope_otherwise(nodes, parts[1], k, spans, grid)
    if kind == "times":
        return made("plus", made("times", x, b, grid), made("times", spans[parts[1]], a, grid), grid)
    return made(kind, a, b, grid)


def slopes_otherwise(nodes, box, grid, places=None):
    """The slopes of the nodes with these numbers, or of all."""
    spans = worths_otherwise(nodes, box, grid)
    places = range(len(nodes)) if places is None else places
    return [[slope_otherwise(nodes, at, k, spans, grid) for k in range(len(box))] for at in places]


# Matrices: the determinant as the sum over all orders, the inverse by turning the rows into those of 1 and 0.


def determinant_otherwise(matrix):
    total = 0
    for order in permutations(range(len(matrix))):
        turned = sum(order[a] > order[b] for b in range(len(order)) for a in range(b))
        total += (-1) ** turned * prod(row[column] for row, column in zip(matrix, order))
    return total


def inverse_otherwise(matrix, grid):
    many = len(matrix)
    rows = [[Fraction(entry, grid) for entry in row] + [Fraction(k == j) for j in range(many)] for k, row in enumerate(matrix)]
    for column in range(many):
        found = [k for k in range(column, many) if rows[k][column] != 0]
        if not found:
            return None
        rows[column], rows[found[0]] = rows[found[0]], rows[column]
        rows[column] = [entry / rows[column][column] for entry in rows[column]]
        for k in set(range(many)) - {column}:
            rows[k] = [entry - rows[k][column] * above for entry, above in zip(rows[k], rows[column])]
    return [[floor(entry * grid) for entry in row[many:]] for row in rows]


# The step, end by end.


def step_by_otherwise(box, grid, turn, thin, steep):
    """The step of the equations' worths over the middles and of their slopes, whatever these are."""
    centre = [floor(Fraction(sum(span), 2)) for span in box]
    near = []
    for k, entries in enumerate(turn):
        terms = [made("times", (entry, entry), span, grid) for entry, span in zip(entries, thin)]
        low = centre[k] - sum(term[1] for term in terms)
        high = centre[k] - sum(term[0] for term in terms)
        for other, span in enumerate(box):
            terms = [made("times", (entry, entry), slope[other], grid) for entry, slope in zip(entries, steep)]
            whole = grid if k == other else 0
            lack = (whole - sum(term[1] for term in terms), whole - sum(term[0] for term in terms))
            term = made("times", lack, (span[0] - centre[other], span[1] - centre[other]), grid)
            low, high = low + term[0], high + term[1]
        near.append((low, high))
    return near


def step_otherwise(nodes, rows, box, grid, turn):
    places = [at for word, at in rows if word == "zero"]
    thin = worths_otherwise(nodes, [(sum(span) // 2,) * 2 for span in box], grid)
    steep = slopes_otherwise(nodes, box, grid, places)
    return step_by_otherwise(box, grid, turn, [thin[at] for at in places], steep)


def alone_otherwise(nodes, rows, box, grid):
    spans = worths_otherwise(nodes, box, grid)
    places = [at for word, at in rows if word == "zero"]
    if len(places) != len(box) or any(word == "least" and spans[at][0] < 0 for word, at in rows):
        return None
    steep = slopes_otherwise(nodes, box, grid, places)
    turn = inverse_otherwise([[floor(Fraction(sum(span), 2)) for span in slope] for slope in steep], grid)
    if turn is None:
        return None
    near = step_otherwise(nodes, rows, box, grid, turn)
    within = [old[0] < new[0] <= new[1] < old[1] for new, old in zip(near, box)]
    return (turn, near) if all(within) else None


def closer_otherwise(nodes, rows, box, grid, rounds):
    found = alone_otherwise(nodes, rows, box, grid) if rounds > 0 else None
    return list(box) if found is None else closer_otherwise(nodes, rows, found[1], grid, rounds - 1)
