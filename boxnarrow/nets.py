"""Nets: lists of nodes, each behind its parts; how they grow, and how a node is shown."""

from boxnarrow.errors import TooMuch
from boxnarrow.words import written

MOST_NODES = 60
MOST_WEIGHT = 16
SIGNS = {"plus": "+", "minus": "-", "times": "*"}


def weight_of(node, weights):
    if node[0] in ("number", "unknown"):
        return 1
    if node[0] == "power":
        return node[2] * weights[node[1]]
    return weights[node[1]] + weights[node[2]]


class Net:
    def __init__(self):
        self.kept = []
        self.weights = []
        self.numbers = {}

    def put(self, node):
        # An alike node is looked for first: a full net still tells its number.
        if node in self.numbers:
            return self.numbers[node]
        own_weight = weight_of(node, self.weights)
        if own_weight > MOST_WEIGHT:
            raise TooMuch("a node weighs too much")
        number = len(self.kept)
        if number == MOST_NODES:
            raise TooMuch("a net has too many nodes")
        self.kept.append(node)
        self.weights.append(own_weight)
        self.numbers[node] = number
        return number

    def nodes(self):
        return list(self.kept)

    def weight(self, at):
        return self.weights[at]


def shown(nodes, at, names):
    node = nodes[at]
    if node[0] == "number":
        return written((node[1], node[2]))
    if node[0] == "unknown":
        return names[node[1]]
    first = shown(nodes, node[1], names)
    if node[0] == "power":
        many = node[2]
        return f"( {first} ^ {many} )"
    sign = SIGNS[node[0]]
    second = shown(nodes, node[2], names)
    return f"( {first} {sign} {second} )"
