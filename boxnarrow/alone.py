"""The step by slopes, boxes that are alone, and boxes brought closer."""

from boxnarrow.matrices import inverse
from boxnarrow.sloping import slopes
from boxnarrow.spans import add_spans, deep, middle, mul_spans, take_spans
from boxnarrow.worths import sure, worths


def equation_places(rows):
    return [row[1] for row in rows if row[0] == "zero"]


def picked(each, places):
    return [each[place] for place in places]


def middles(spans):
    return [middle(span) for span in spans]


def box_of_middles(box):
    return [(place, place) for place in middles(box)]


def sum_of_products(ones, others, grid):
    total = (0, 0)
    for one, other in zip(ones, others):
        total = add_spans(total, mul_spans(one, other, grid))
    return total


def lacking(k, column, turns, slants, grid):
    # A turn that fits the slopes just undoes them: told is how far it is from that.
    whole = (grid, grid) if k == column else (0, 0)
    column_slants = [slant[column] for slant in slants]
    return take_spans(whole, sum_of_products(turns, column_slants, grid))


def span_by(k, box, grid, entries, thin, slants):
    turns = [(entry, entry) for entry in entries]
    centres = box_of_middles(box)
    moved = take_spans(centres[k], sum_of_products(turns, thin, grid))
    lacks = [lacking(k, column, turns, slants, grid) for column in range(len(box))]
    ways = [take_spans(span, centre) for span, centre in zip(box, centres)]
    return add_spans(moved, sum_of_products(lacks, ways, grid))


def step_by(box, grid, turn, thin, slants):
    # thin has the equations' worths over the box of the middles, slants their slopes over the box.
    return [span_by(k, box, grid, entries, thin, slants) for k, entries in enumerate(turn)]


def thin_worths(nodes, places, box, grid):
    return picked(worths(nodes, box_of_middles(box), grid), places)


def slopes_at(nodes, places, box, grid):
    return picked(slopes(nodes, box, grid), places)


def step(nodes, rows, box, grid, turn):
    places = equation_places(rows)
    thin = thin_worths(nodes, places, box, grid)
    return step_by(box, grid, turn, thin, slopes_at(nodes, places, box, grid))


def leasts_are_sure(rows, spans):
    return all([sure(row[0], spans[row[1]]) for row in rows if row[0] == "least"])


def all_deep(near, box):
    return all([deep(new, old) for new, old in zip(near, box)])


def alone(nodes, rows, box, grid):
    places = equation_places(rows)
    if len(places) != len(box) or not leasts_are_sure(rows, worths(nodes, box, grid)):
        return None
    slants = slopes_at(nodes, places, box, grid)
    turn = inverse([middles(slant) for slant in slants], grid)
    if turn is None:
        return None
    near = step_by(box, grid, turn, thin_worths(nodes, places, box, grid), slants)
    if not all_deep(near, box):
        return None
    return (turn, near)


def closer(nodes, rows, box, grid, rounds):
    left = list(box)
    for time in range(rounds):
        found = alone(nodes, rows, left, grid)
        if found is None:
            return left
        left = found[1]
    return left
