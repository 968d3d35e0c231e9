"""Second reckonings of books, islands and desks: what the program answers, found in another way."""

from collections import Counter
from fractions import Fraction
from heapq import heappop, heappush

from tests.otherwise import (
    NOTHING_TOLD, alone_otherwise, forth_otherwise, made, number_otherwise, outward, shaves_otherwise, slopes_otherwise,
    step_by_otherwise, told_otherwise, worths_otherwise,
)

# The search: what waits lies on a heap; each look is a row of small questions.


def size(box):
    return sum(high - low for low, high in box)


def widest_otherwise(box):
    return max(high - low for low, high in box)


def bars_otherwise(word, span):
    return span[1] < 0 or word == "zero" and span[0] > 0


def sure_otherwise(word, span):
    return span == (0, 0) if word == "zero" else span[0] >= 0


def middles_otherwise(box):
    return [(sum(span) // 2,) * 2 for span in box]


def cut_otherwise(book, number, k, place):
    low, high = book[number][0][k]
    for span in ((low, place), (place, high)):
        book.append([[span if j == k else old for j, old in enumerate(book[number][0])], None])
    book[number][1] = ("cut", k, place, len(book) - 2, len(book) - 1)
    return [len(book) - 2, len(book) - 1]


def out_otherwise(nodes, rows, r, box, grid):
    return ("out", r, worths_otherwise(nodes, box, grid)[:rows[r][1] + 1])


def look_otherwise(book, number, nodes, rows, grid, fine):
    """Looks at an entry; told are the numbers of those that wait behind it."""
    began = size(book[number][0])
    for r, row in enumerate(rows):
        cuts, left = shaves_otherwise(nodes, row, book[number][0], grid)
        if left is None:
            book[number][1] = out_otherwise(nodes, rows, r, book[number][0], grid)
            return []
        for k, place, side in cuts:
            parts = cut_otherwise(book, number, k, place)
            thrown = parts.pop(side)
            book[thrown][1] = out_otherwise(nodes, rows, r, book[thrown][0], grid)
            number = parts[0]
    box = book[number][0]
    spans = worths_otherwise(nodes, box, grid)
    barring = [r for r, (word, at) in enumerate(rows) if bars_otherwise(word, spans[at])]
    if barring:
        book[number][1] = out_otherwise(nodes, rows, barring[0], box, grid)
    elif all(sure_otherwise(word, spans[at]) for word, at in rows):
        book[number][1] = ("full", spans)
    elif lonely := alone_otherwise(nodes, rows, box, grid):
        thin = worths_otherwise(nodes, middles_otherwise(box), grid)
        book[number][1] = ("one", *lonely, spans, thin, slopes_otherwise(nodes, box, grid))
    elif widest_otherwise(box) <= fine:
        book[number][1] = ("small",)
    elif Fraction(size(box), began) <= Fraction(3, 4):
        return [number]
    else:
        k = min(range(len(box)), key=lambda place: (box[place][0] - box[place][1], place))
        return cut_otherwise(book, number, k, sum(box[k]) // 2)
    return []


def search_otherwise(nodes, rows, box, grid, fine, looks):
    book = [[list(box), None]]
    heap = [(-widest_otherwise(box), 0)]
    while heap and looks > 0:
        looks -= 1
        for number in look_otherwise(book, heappop(heap)[1], nodes, rows, grid, fine):
            heappush(heap, (-widest_otherwise(book[number][0]), number))
    return [(box, fate or ("waits",)) for box, fate in book]


def leaf_otherwise(book, point, grid):
    """The leaf of a point: of the entries not cut that hold it the one that is the first at each cut."""
    places = [Fraction(*number) * grid for number in point]
    if not all(low <= place <= high for place, (low, high) in zip(places, book[0][0])):
        return None
    # Each entry but the first stands behind the one that was cut, so one walk is enough.
    number = 0
    for at, (box, fate) in enumerate(book):
        if at == number and fate[0] == "cut":
            number = fate[3] if places[fate[1]] <= fate[2] else fate[4]
    return number


# The looker: from the first entry down, each entry with the box that is due to it.


def within(inner, outer):
    return outer[0] <= inner[0] and inner[1] <= outer[1]


def right_spans_otherwise(nodes, box, grid, spans):
    due = [forth_otherwise(node, spans, box, grid) for node, span in zip(nodes, spans)]
    return all(within(*pair) for pair in zip(due, spans, strict=True))


def slope_by(node, k, spans, slants, grid):
    kind, *parts = node
    if kind in ("number", "unknown"):
        return (grid, grid) if node == ("unknown", k) else (0, 0)
    x, a = spans[parts[0]], slants[parts[0]][k]
    if kind == "power":
        lower = x if parts[1] == 2 else forth_otherwise(("power", 0, parts[1] - 1), [x], [], grid)
        return made("times", (lower[0] * parts[1], lower[1] * parts[1]), a, grid)
    y, b = spans[parts[1]], slants[parts[1]][k]
    if kind == "times":
        return made("plus", made("times", x, b, grid), made("times", y, a, grid), grid)
    return made(kind, a, b, grid)


def right_slopes_otherwise(nodes, box, grid, spans, slants):
    if [len(slope) for slope in slants] != [len(box)] * len(nodes):
        return False
    return all(
        within(slope_by(node, k, spans, slants, grid), span)
        for node, slope in zip(nodes, slants) for k, span in enumerate(slope)
    )


def right_one_otherwise(nodes, rows, box, grid, turn, near, spans, thin, slants):
    places = [at for word, at in rows if word == "zero"]
    many = len(box)
    if [len(spans), len(thin), len(places), len(near)] != [len(nodes), len(nodes), many, many]:
        return False
    if [len(row) for row in turn] != [many] * many or not right_slopes_otherwise(nodes, box, grid, spans, slants):
        return False
    if not right_spans_otherwise(nodes, box, grid, spans):
        return False
    if not right_spans_otherwise(nodes, middles_otherwise(box), grid, thin):
        return False
    if any(word == "least" and spans[at][0] < 0 for word, at in rows):
        return False
    due = step_by_otherwise(box, grid, turn, [thin[at] for at in places], [slants[at] for at in places])
    return all(old[0] < new[0] and new[1] < old[1] and within(wished, new) for wished, new, old in zip(due, near, box))


def right_fate_otherwise(nodes, rows, box, grid, fate):
    word, *more = fate
    if word == "out":
        r, spans = more
        if r not in range(len(rows)) or len(spans) != rows[r][1] + 1:
            return False
        return right_spans_otherwise(nodes, box, grid, spans) and bars_otherwise(rows[r][0], spans[-1])
    if word == "full":
        if len(more[0]) != len(nodes) or not right_spans_otherwise(nodes, box, grid, more[0]):
            return False
        return all(sure_otherwise(asked, more[0][at]) for asked, at in rows)
    return word != "one" or right_one_otherwise(nodes, rows, box, grid, *more)


def right_book_otherwise(nodes, rows, box, grid, book):
    uses = Counter(part for own, fate in book if fate[0] == "cut" for part in fate[3:])
    if not book or dict(uses) != {number: 1 for number in range(1, len(book))}:
        return False
    due = {0: list(box)}
    for number, (own, fate) in enumerate(book):
        # Where a part stands ahead of its cut, no box is due to it yet.
        if due.get(number) != own:
            return False
        if fate[0] != "cut":
            if not right_fate_otherwise(nodes, rows, own, grid, fate):
                return False
            continue
        k, place, a, b = fate[1:]
        if k not in range(len(box)) or not own[k][0] < place < own[k][1]:
            return False
        due[a] = [*own[:k], (own[k][0], place), *own[k + 1:]]
        due[b] = [*own[:k], (place, own[k][1]), *own[k + 1:]]
    return True


# Islands: who reaches whom, by as many steps as there are boxes.


def touch_otherwise(box, other):
    return all(abs(sum(one) - sum(two)) <= size([one, two]) for one, two in zip(box, other))


def islands_otherwise(boxes):
    reached = [{n for n, other in enumerate(boxes) if touch_otherwise(box, other)} for box in boxes]
    for time in boxes:
        reached = [set().union(*(reached[n] for n in numbers)) for numbers in reached]
    groups = sorted({tuple(sorted(numbers)) for numbers in reached})
    return [(list(numbers), [
        (min(boxes[n][k][0] for n in numbers), max(boxes[n][k][1] for n in numbers)) for k in range(len(boxes[0]))
    ]) for numbers in groups]


# The desk: a state is never changed, each line that is taken makes a new one.

SETTINGS = {"grid": (1, 10 ** 6), "fine": (1, 10 ** 9 - 1), "looks": (0, 300)}
NEW_DESK = {"task": NOTHING_TOLD, "grid": 64, "fine": 16, "looks": 60, "book": None}


def text_otherwise(place, grid):
    number = Fraction(place, grid)
    return str(number.numerator) + (f"/{number.denominator}" if number.denominator != 1 else "")


def spans_text_otherwise(desk, box):
    return "".join(
        f" {name} {text_otherwise(low, desk['grid'])} {text_otherwise(high, desk['grid'])}"
        for name, (low, high) in zip(desk["task"]["names"], box)
    )


def whole_box_otherwise(desk):
    return [outward([Fraction(*end) for end in ends], desk["grid"]) for ends in desk["task"]["ends"]]


def solved_otherwise(desk):
    task = desk["task"]
    book = search_otherwise(task["nodes"], task["rows"], whole_box_otherwise(desk), desk["grid"], desk["fine"], desk["looks"])
    found = Counter(fate[0] for box, fate in book)
    words = (("ones", "one"), ("fulls", "full"), ("smalls", "small"), ("waits", "waits"), ("outs", "out"))
    return [f"{many} {found[word]}" for many, word in words], {**desk, "book": book}


def asked_otherwise(desk, words):
    """What a desk with a book answers to a line that asks for it."""
    task, book = desk["task"], desk["book"]
    shown = [number for number, (box, fate) in enumerate(book) if fate[0] not in ("cut", "out")]
    if words[0] == "boxes":
        return [f"{book[number][1][0]} {number}" + spans_text_otherwise(desk, book[number][0]) for number in shown]
    if words[0] == "right":
        is_right = right_book_otherwise(task["nodes"], task["rows"], whole_box_otherwise(desk), desk["grid"], book)
        return ["right" if is_right else "wrong"]
    if words[0] == "islands":
        found = islands_otherwise([book[number][0] for number in shown])
        return [" ".join(str(shown[n]) for n in numbers) + spans_text_otherwise(desk, hull) for numbers, hull in found]
    leaf = leaf_otherwise(book, [number_otherwise(word) for word in words[1:]], desk["grid"])
    if leaf is None:
        return ["outside"]
    fate = book[leaf][1]
    return [f"out {fate[1]}" if fate[0] == "out" else fate[0]]


def desk_otherwise(desk, line):
    """What a desk answers to a line, or a tuple of the refusal's name and, of NoName, its word; and the new state."""
    words = line.split(" ") if isinstance(line, str) else [""]
    if words[0] in SETTINGS:
        low, high = SETTINGS[words[0]]
        number = number_otherwise(words[1]) if len(words) == 2 else None
        if number is None or number[1] != 1 or not low <= number[0] <= high:
            return ("NoRow",), desk
        return [line], {**desk, words[0]: number[0], "book": None}
    if words[0] in ("solve", "boxes", "right", "islands", "point"):
        wanted = len(desk["task"]["names"]) if words[0] == "point" else 0
        if len(words) - 1 != wanted or None in [number_otherwise(word) for word in words[1:]]:
            return ("NoRow",), desk
        if words[0] == "solve":
            return solved_otherwise(desk) if desk["task"]["names"] else (("NoTask",), desk)
        return (("NoBook",) if desk["book"] is None else asked_otherwise(desk, words)), desk
    answer, task = told_otherwise(desk["task"], line)
    if isinstance(answer, tuple):
        return answer, desk
    number = {"unknown": f" {len(task['names']) - 1}", "row": f" {len(task['rows']) - 1}", "part": ""}[answer]
    return [answer + number], {**desk, "task": task, "book": None}
