"""Tasks: unknowns, parts and rows, told line by line."""

from boxnarrow.errors import NoName, NoRow, TooMuch
from boxnarrow.fractions import less
from boxnarrow.grammar import tree_of
from boxnarrow.nets import Net
from boxnarrow.words import is_name, number_of

MOST_UNKNOWNS = 4
MOST_ROWS = 12
ROW_WORDS = {"=": "zero", ">=": "least"}


def words_of(line):
    if not isinstance(line, str):
        raise NoRow("a line is no text")
    words = line.split(" ")
    # Two blanks in a row, one ahead or one behind leave an empty word; so does the empty line.
    if "" in words:
        raise NoRow("the words of a line are not parted by single blanks")
    return words


def ends_of(words):
    if len(words) != 4 or not is_name(words[0]):
        raise NoRow("a line with in is not NAME in LOW HIGH")
    low = number_of(words[2])
    high = number_of(words[3])
    if less(high, low):
        raise NoRow("the high end is less than the low one")
    return (low, high)


def place_of_sign(words):
    for place, word in enumerate(words):
        if word in ROW_WORDS:
            return place
    raise NoRow("a row has no sign")


def put_tree(net, tree, meanings):
    if tree[0] == "name":
        return meanings[tree[1]]
    if tree[0] == "number":
        return net.put(tree)
    first = put_tree(net, tree[1], meanings)
    if tree[0] == "power":
        return net.put(("power", first, tree[2]))
    second = put_tree(net, tree[2], meanings)
    return net.put((tree[0], first, second))


def copy_of(net):
    fresh = Net()
    for node in net.nodes():
        fresh.put(node)
    return fresh


class Task:
    def __init__(self):
        self.net = Net()
        self.meanings = {}
        self.unknown_names = []
        self.unknown_ends = []
        self.told_rows = []

    def tell(self, line):
        words = words_of(line)
        if words[1:2] == ["in"]:
            return self.tell_unknown(words)
        if words[0] == "let":
            return self.tell_part(words)
        return self.tell_row(words)

    def tell_unknown(self, words):
        own_ends = ends_of(words)
        self.check_new(words[0])
        number = len(self.unknown_names)
        if number == MOST_UNKNOWNS:
            raise TooMuch("a task has too many unknowns")
        self.meanings[words[0]] = self.net.put(("unknown", number))
        self.unknown_names.append(words[0])
        self.unknown_ends.append(own_ends)
        return "unknown"

    def tell_part(self, words):
        if len(words) < 3 or not is_name(words[1]) or words[2] != "=":
            raise NoRow("a line with let is not let NAME = EXPRESSION")
        tree = tree_of(words[3:])
        self.check_new(words[1])
        self.check_known(words[3:])
        # What the net refuses may come behind nodes of the line that it took: so they are put to a copy.
        grown = copy_of(self.net)
        self.meanings[words[1]] = put_tree(grown, tree, self.meanings)
        self.net = grown
        return "part"

    def tell_row(self, words):
        place = place_of_sign(words)
        left = tree_of(words[:place])
        right = tree_of(words[place + 1:])
        self.check_known(words)
        if len(self.told_rows) == MOST_ROWS:
            raise TooMuch("a task has too many rows")
        grown = copy_of(self.net)
        at = put_tree(grown, ("minus", left, right), self.meanings)
        self.net = grown
        self.told_rows.append((ROW_WORDS[words[place]], at))
        return "row"

    def check_new(self, name):
        if name in self.meanings:
            raise NoName(name)

    def check_known(self, words):
        # Of the words of an expression those that could be names are names.
        for word in words:
            if is_name(word) and word not in self.meanings:
                raise NoName(word)

    def names(self):
        return list(self.unknown_names)

    def ends(self):
        return list(self.unknown_ends)

    def nodes(self):
        return self.net.nodes()

    def rows(self):
        return list(self.told_rows)


def read(lines):
    task = Task()
    for line in lines:
        task.tell(line)
    return task
