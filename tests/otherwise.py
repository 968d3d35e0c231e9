"""Second reckonings: what the program answers, found in another way, to be held against it."""

import re
from fractions import Fraction
from math import ceil, floor, gcd

KINDS = {"+": "plus", "-": "minus", "*": "times"}
KEPT = ("let", "in", "grid", "fine", "looks", "solve", "boxes", "point", "right", "islands")
NUMBER = re.compile(r"(?P<top>0|-?[1-9][0-9]{0,8})(/(?P<bottom>[1-9][0-9]{0,8}))?")
NAME = re.compile(r"[a-z]{1,8}")


# Words and trees.


def number_otherwise(word):
    """The pair of a number read, or None."""
    found = NUMBER.fullmatch(word)
    if found is None or found["bottom"] == "1":
        return None
    pair = (int(found["top"]), int(found["bottom"] or 1))
    return pair if gcd(*pair) == 1 else None


def name_otherwise(word):
    return NAME.fullmatch(word) is not None and word not in KEPT


def split_at(words, signs):
    """The last place, outside of all brackets, where one of signs stands; None where there is none."""
    depth = 0
    for place in reversed(range(len(words))):
        depth += (words[place] == ")") - (words[place] == "(")
        if depth == 0 and words[place] in signs:
            return place
    return None


def tree_otherwise(words):
    """The tree of words, or None, found from behind: what is made last is parted first. It knows no bounds."""
    place = split_at(words, ("+", "-"))
    if place is None:
        place = split_at(words, ("*",))
    if place is not None:
        parts = (tree_otherwise(words[:place]), tree_otherwise(words[place + 1:]))
        return None if None in parts else (KINDS[words[place]],) + parts
    if len(words) > 2 and words[-2] == "^":
        part = atom_otherwise(words[:-2])
        return ("power", part, int(words[-1])) if part and words[-1] in tuple("23456") else None
    return atom_otherwise(words)


def atom_otherwise(words):
    if len(words) > 2 and words[0] == "(" and words[-1] == ")":
        return tree_otherwise(words[1:-1])
    if len(words) != 1:
        return None
    if name_otherwise(words[0]):
        return ("name", words[0])
    number = number_otherwise(words[0])
    return None if number is None else ("number",) + number


def bounded_tree_otherwise(words):
    open_at = [words[:place].count("(") - words[:place].count(")") for place in range(len(words) + 1)]
    return tree_otherwise(words) if len(words) <= 120 and max(open_at) <= 16 else None


# Tasks: a state is never changed, each line that is taken makes a new one.


class Beyond(Exception):
    pass


NOTHING_TOLD = {"stands": {}, "names": [], "ends": [], "nodes": [], "rows": []}


def weight_otherwise(nodes, at):
    kind, *parts = nodes[at]
    if kind in ("number", "unknown"):
        return 1
    if kind == "power":
        return parts[1] * weight_otherwise(nodes, parts[0])
    return sum(weight_otherwise(nodes, part) for part in parts)


def node_in(nodes, node):
    """The number of a node, put to the list nodes where none is alike."""
    if node not in nodes:
        nodes.append(node)
        if len(nodes) > 60 or weight_otherwise(nodes, len(nodes) - 1) > 16:
            raise Beyond
    return nodes.index(node)


def tree_in(nodes, tree, stands):
    if tree[0] == "name":
        return stands[tree[1]]
    if tree[0] == "number":
        return node_in(nodes, tree)
    parts = [tree_in(nodes, part, stands) if isinstance(part, tuple) else part for part in tree[1:]]
    return node_in(nodes, (tree[0], *parts))


def line_otherwise(line):
    """What a line says: its answer, its new name or None, its trees, and what else it tells; None where nothing."""
    words = line.split(" ") if isinstance(line, str) else [""]
    if "" in words:
        return None
    if words[1:2] == ["in"]:
        ends = [number_otherwise(word) for word in words[2:]]
        if len(words) != 4 or not name_otherwise(words[0]) or None in ends:
            return None
        return ("unknown", words[0], [], ends) if Fraction(*ends[0]) <= Fraction(*ends[1]) else None
    if words[0] == "let":
        tree = bounded_tree_otherwise(words[3:])
        right = words[2:3] == ["="] and name_otherwise(words[1]) and tree is not None
        return ("part", words[1], [tree], None) if right else None
    signs = [place for place, word in enumerate(words) if word in ("=", ">=")]
    if len(signs) != 1:
        return None
    trees = [bounded_tree_otherwise(words[:signs[0]]), bounded_tree_otherwise(words[signs[0] + 1:])]
    return None if None in trees else ("row", None, trees, "zero" if words[signs[0]] == "=" else "least")


def names_in(tree):
    if tree[0] == "name":
        return [tree[1]]
    return [name for part in tree[1:] if isinstance(part, tuple) for name in names_in(part)]


def told_otherwise(state, line):
    """What a task answers to a line, or a tuple of the refusal's name and, of NoName, its word; and the new state."""
    said = line_otherwise(line)
    if said is None:
        return ("NoRow",), state
    answer, new, trees, more = said
    missing = [new] if new in state["stands"] else []
    missing += [name for tree in trees for name in names_in(tree) if name not in state["stands"]]
    if missing:
        return ("NoName", missing[0]), state
    grown = {key: value.copy() for key, value in state.items()}
    try:
        numbers = [tree_in(grown["nodes"], tree, state["stands"]) for tree in trees]
        if answer == "unknown":
            numbers = [node_in(grown["nodes"], ("unknown", len(grown["names"])))]
            grown["names"].append(new)
            grown["ends"].append(tuple(more))
        if answer == "row":
            grown["rows"].append((more, node_in(grown["nodes"], ("minus", *numbers))))
    except Beyond:
        return ("TooMuch",), state
    if new:
        grown["stands"][new] = numbers[0]
    if len(grown["names"]) > 4 or len(grown["rows"]) > 12:
        return ("TooMuch",), state
    return answer, grown


# Worths, with Python's own fractions in the place of steps.


def outward(numbers, grid):
    return (floor(min(numbers) * grid), ceil(max(numbers) * grid))


def forth_otherwise(node, spans, box, grid):
    kind, *parts = node
    if kind == "number":
        return outward([Fraction(*parts)], grid)
    if kind == "unknown":
        return box[parts[0]]
    first = [Fraction(end, grid) for end in spans[parts[0]]]
    if kind == "power":
        powers = [end ** parts[1] for end in first]
        return outward(powers + [0] * (first[0] < 0 < first[1]), grid)
    second = [Fraction(end, grid) for end in spans[parts[1]]]
    made = {
        "plus": [a + b for a in first for b in second],
        "minus": [a - b for a in first for b in second],
        "times": [a * b for a in first for b in second],
    }
    return outward(made[kind], grid)


def worths_otherwise(nodes, box, grid):
    spans = []
    for node in nodes:
        spans.append(forth_otherwise(node, spans, box, grid))
    return spans


def exact_otherwise(nodes, at, point):
    """The exact worth of one node, as a fraction of Python's own."""
    kind, *parts = nodes[at]
    if kind == "number":
        return Fraction(*parts)
    if kind == "unknown":
        return Fraction(*point[parts[0]])
    first = exact_otherwise(nodes, parts[0], point)
    if kind == "power":
        return first ** parts[1]
    second = exact_otherwise(nodes, parts[1], point)
    return {"plus": first + second, "minus": first - second, "times": first * second}[kind]


# The way back, by asking of each place where what is left could begin or end whether it is one that is left.


def left_of(x, places, meets):
    found = [place for place in [*x, *places] if x[0] <= place <= x[1] and meets(place)]
    return (floor(min(found)), ceil(max(found))) if found else None


def touch(a, b):
    return min(a) <= max(b) and min(b) <= max(a)


def times_otherwise(z, x, y, grid):
    products = (z[0] * grid, z[1] * grid)
    places = [Fraction(product, end) for product in products for end in y if end != 0]
    return left_of(x, places, lambda place: touch((place * y[0], place * y[1]), products))


def plus_otherwise(z, x, y):
    return left_of(x, [a - b for a in z for b in y], lambda place: touch((place + y[0], place + y[1]), z))


def minus_otherwise(z, x, y):
    return left_of(x, [a + b for a in z for b in y], lambda place: touch((place - y[0], place - y[1]), z))


def taken_otherwise(z, x, y):
    """What of y is left where x - y is to lie in z."""
    return left_of(y, [b - a for a in z for b in x], lambda place: touch((x[0] - place, x[1] - place), z))


def power_otherwise(z, x, many, grid):
    """The way back through the power, step by step of x: at the step itself, and between it and the next one."""
    scale = grid ** (many - 1)
    low, high = z[0] * scale, z[1] * scale
    ends = []
    for place in range(x[0], x[1] + 1):
        if low <= place ** many <= high:
            ends.append(place)
        if place < x[1]:
            # No step but 0 itself parts falling powers from rising ones, so between two steps they do one of both.
            powers = sorted([place ** many, (place + 1) ** many])
            if powers[0] < high and low < powers[1]:
                ends += [place, place + 1]
    if not ends:
        return None
    return (min(ends), max(ends))


def back_otherwise(node, spans, z, grid):
    """The way back of a node, as its object tells it."""
    kind, *parts = node
    if kind in ("number", "unknown"):
        return []
    one = parts[0]
    if kind == "power":
        x = power_otherwise(z, spans[one], parts[1], grid)
        return None if x is None else [(one, x)]
    other = parts[1]
    first = {
        "plus": plus_otherwise, "minus": minus_otherwise, "times": lambda z, x, y: times_otherwise(z, x, y, grid),
    }[kind]
    second = {
        "plus": lambda z, x, y: plus_otherwise(z, y, x), "minus": taken_otherwise,
        "times": lambda z, x, y: times_otherwise(z, y, x, grid),
    }[kind]
    x = first(z, spans[one], spans[other])
    if x is None:
        return None
    behind = {**dict(enumerate(spans)), one: x}
    y = second(z, behind[one], behind[other])
    return None if y is None else [(one, x), (other, y)]


def narrowed_otherwise(nodes, row, box, grid):
    word, at = row
    spans = worths_otherwise(nodes[:at + 1], box, grid)
    low, high = spans[at]
    low = max(low, 0)
    high = high if word == "least" else min(high, 0)
    if low > high:
        return None
    spans[at] = (low, high)
    for number in reversed(range(at + 1)):
        made = back_otherwise(nodes[number], spans, spans[number], grid)
        if made is None:
            return None
        spans = [dict(made).get(place, span) for place, span in enumerate(spans)]
    places = {node[1]: number for number, node in enumerate(nodes[:at + 1]) if node[0] == "unknown"}
    return [spans[places[k]] if k in places else span for k, span in enumerate(box)]
