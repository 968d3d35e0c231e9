"""The looker: whether claims of spans and of slopes are right, and whether a book is, whoever made it."""

from boxnarrow.alone import all_deep, box_of_middles, equation_places, leasts_are_sure, picked, step_by
from boxnarrow.kinds import kind_of
from boxnarrow.shaving import with_span
from boxnarrow.spans import deep, inside
from boxnarrow.worths import bars, sure


def all_inside(ones, others):
    return all([inside(one, other) for one, other in zip(ones, others)])


def all_as_long(lists, many):
    return all([len(each) == many for each in lists])


def is_square(matrix, many):
    return len(matrix) == many and all_as_long(matrix, many)


def right_spans(nodes, box, grid, spans):
    if len(spans) > len(nodes):
        return False
    return all_inside([kind_of(nodes[number]).forth(spans, box, grid) for number in range(len(spans))], spans)


def right_slopes(nodes, box, grid, spans, slopes):
    many = len(box)
    if len(slopes) != len(nodes) or not all_as_long(slopes, many):
        return False
    return all([all_inside(kind_of(node).slope(spans, slopes, many, grid), own) for node, own in zip(nodes, slopes)])


def right_for_all(nodes, box, grid, spans):
    return len(spans) == len(nodes) and right_spans(nodes, box, grid, spans)


def right_out(nodes, rows, box, grid, fate):
    r = fate[1]
    spans = fate[2]
    if not 0 <= r < len(rows):
        return False
    at = rows[r][1]
    return len(spans) == at + 1 and right_spans(nodes, box, grid, spans) and bars(rows[r][0], spans[at])


def right_full(nodes, rows, box, grid, fate):
    spans = fate[1]
    return right_for_all(nodes, box, grid, spans) and all([sure(row[0], spans[row[1]]) for row in rows])


def right_near(rows, box, grid, fate):
    turn = fate[1]
    near = fate[2]
    places = equation_places(rows)
    if len(places) != len(box) or not is_square(turn, len(box)) or len(near) != len(box):
        return False
    due = step_by(box, grid, turn, picked(fate[4], places), picked(fate[5], places))
    return all_inside(due, near) and all_deep(near, box)


def right_one(nodes, rows, box, grid, fate):
    spans = fate[3]
    if not right_for_all(nodes, box, grid, spans) or not leasts_are_sure(rows, spans):
        return False
    if not right_for_all(nodes, box_of_middles(box), grid, fate[4]):
        return False
    return right_slopes(nodes, box, grid, spans, fate[5]) and right_near(rows, box, grid, fate)


def right_cut(book, number):
    box = book[number][0]
    fate = book[number][1]
    k = fate[1]
    place = fate[2]
    a = fate[3]
    b = fate[4]
    if not 0 <= k < len(box) or not deep((place, place), box[k]) or min(a, b) <= number:
        return False
    below = with_span(box, k, (box[k][0], place))
    above = with_span(box, k, (place, box[k][1]))
    return book[a][0] == below and book[b][0] == above


def parts_of(book):
    found = []
    for entry in book:
        fate = entry[1]
        if fate[0] == "cut":
            found.append(fate[3])
            found.append(fate[4])
    return found


def is_whole_tree(box, book):
    if len(book) == 0 or book[0][0] != box or not all_as_long([entry[0] for entry in book], len(box)):
        return False
    # Each number but 0 just once: so no part is outside the book, and none is that of two cuts or twice of one.
    return sorted(parts_of(book)) == list(range(1, len(book)))


def right_entry(nodes, rows, grid, book, number):
    box = book[number][0]
    fate = book[number][1]
    if fate[0] == "cut":
        return right_cut(book, number)
    if fate[0] == "out":
        return right_out(nodes, rows, box, grid, fate)
    if fate[0] == "full":
        return right_full(nodes, rows, box, grid, fate)
    if fate[0] == "one":
        return right_one(nodes, rows, box, grid, fate)
    # Of those that are small or wait nothing is claimed.
    return True


def right_book(nodes, rows, box, grid, book):
    # The tree comes first: it makes sure that boxes are long enough and that parts are entries.
    if not is_whole_tree(box, book):
        return False
    return all([right_entry(nodes, rows, grid, book, number) for number in range(len(book))])
