"""The slopes of a net over a box: for each node how fast its worth changes with each unknown."""

from boxnarrow.kinds import kind_of
from boxnarrow.worths import worths


def slopes(nodes, box, grid):
    spans = worths(nodes, box, grid)
    found = []
    for node in nodes:
        found.append(kind_of(node).slope(spans, found, len(box), grid))
    return found
