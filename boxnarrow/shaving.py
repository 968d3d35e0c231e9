"""The shaves of a box by a row: parts are cut off that the row bars by its worth alone.

A cut is a tuple (k, place, side): the k-th span is parted at place, and what is below (side 0) or above (side 1) goes.
"""

from boxnarrow.narrow import narrowed
from boxnarrow.worths import bars, worths


def with_span(box, k, span):
    return box[:k] + [span] + box[k + 1:]


def is_barred(nodes, row, box, grid):
    at = row[1]
    # Nodes behind the row's own have no part in its worth.
    return bars(row[0], worths(nodes[:at + 1], box, grid)[at])


def cut_off(span, cut):
    return (span[0], cut[1]) if cut[2] == 0 else (cut[1], span[1])


def cut_back(span, cut):
    return (cut[1], span[1]) if cut[2] == 0 else (span[0], cut[1])


def is_shave(nodes, row, box, grid, cut):
    k = cut[0]
    span = box[k]
    # A cut at an end of the span, or beyond it, takes nothing off.
    if not span[0] < cut[1] < span[1]:
        return False
    return is_barred(nodes, row, with_span(box, k, cut_off(span, cut)), grid)


def shaves(nodes, row, box, grid):
    if is_barred(nodes, row, box, grid):
        return ([], None)
    left = list(box)
    wished = narrowed(nodes, row, box, grid)
    if wished is None:
        return ([], left)
    cuts = []
    for k, span in enumerate(wished):
        # One step beyond the narrowed span: just at its end the row might be met.
        for cut in ((k, span[0] - 1, 0), (k, span[1] + 1, 1)):
            if is_shave(nodes, row, left, grid, cut):
                cuts.append(cut)
                left[k] = cut_back(left[k], cut)
    return (cuts, left)
