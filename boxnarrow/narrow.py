"""A box narrowed by a row."""

from boxnarrow.kinds import kind_of
from boxnarrow.spans import common
from boxnarrow.worths import worths


def asked_of(word, span):
    if word == "zero":
        return common(span, (0, 0))
    # Where the high end is below 0, nothing from 0 on is there to be had in common.
    return common(span, (0, max(span[1], 0)))


def spans_back(nodes, row, box, grid):
    at = row[1]
    spans = worths(nodes[:at + 1], box, grid)
    wished = asked_of(row[0], spans[at])
    if wished is None:
        return None
    spans[at] = wished
    for number in range(at, -1, -1):
        left = kind_of(nodes[number]).back(spans, spans[number], grid)
        if left is None:
            return None
        for part in left:
            spans[part[0]] = part[1]
    return spans


def narrowed(nodes, row, box, grid):
    spans = spans_back(nodes, row, box, grid)
    if spans is None:
        return None
    left = list(box)
    for number, span in enumerate(spans):
        node = nodes[number]
        if node[0] == "unknown":
            left[node[1]] = span
    return left
