"""Worths of nodes: exact at a point, spans over a box; and what a row's word asks of them."""

from boxnarrow.kinds import kind_of


def exacts(nodes, point):
    found = []
    for node in nodes:
        found.append(kind_of(node).exact(found, point))
    return found


def worths(nodes, box, grid):
    found = []
    for node in nodes:
        found.append(kind_of(node).forth(found, box, grid))
    return found


def met(word, a):
    if word == "zero":
        return a[0] == 0
    return a[0] >= 0


def bars(word, span):
    if word == "zero":
        return span[0] > 0 or span[1] < 0
    return span[1] < 0


def sure(word, span):
    if word == "zero":
        return span[0] == 0 and span[1] == 0
    return span[0] >= 0
