"""The interface: names and arguments as they stand in the document."""

import inspect
import unittest

from boxnarrow import (
    alone, backs, desk, errors, fractions, grammar, islands, kinds, looker, matrices, narrow, nets, search, shaving, sloping,
    spans, tasks, words, worths,
)

OF_A_NODE = (
    ("exact", ["self", "worths", "point"]), ("forth", ["self", "spans", "box", "grid"]),
    ("back", ["self", "spans", "here", "grid"]),
)
ARGUMENTS = (
    (fractions, (
        ("fraction", ["top", "bottom"]), ("plus", ["a", "b"]), ("minus", ["a", "b"]), ("times", ["a", "b"]),
        ("power", ["a", "many"]), ("less", ["a", "b"]),
    )),
    (spans, (
        ("span_of", ["low", "high", "grid"]), ("holds", ["span", "a", "grid"]), ("add_spans", ["a", "b"]),
        ("take_spans", ["a", "b"]), ("mul_spans", ["a", "b", "grid"]), ("raise_span", ["a", "many", "grid"]),
        ("scale_span", ["a", "many"]), ("common", ["a", "b"]), ("hull", ["a", "b"]), ("inside", ["a", "b"]),
        ("deep", ["a", "b"]), ("width", ["a"]), ("middle", ["a"]), ("halves", ["a"]),
    )),
    (errors, (("NoName", ["word"]),)),
    (backs, (("back_times", ["z", "x", "y", "grid"]), ("back_power", ["z", "x", "many", "grid"]))),
    (words, (("number_of", ["word"]), ("written", ["a"]), ("is_name", ["word"]))),
    (grammar, (("tree_of", ["words"]),)),
    (nets, (("Net", []), ("shown", ["nodes", "at", "names"]))),
    (nets.Net, (("put", ["self", "node"]), ("nodes", ["self"]), ("weight", ["self", "at"]))),
    (tasks, (("Task", []), ("read", ["lines"]))),
    (tasks.Task, (
        ("tell", ["self", "line"]), ("names", ["self"]), ("ends", ["self"]), ("nodes", ["self"]), ("rows", ["self"]),
    )),
    (kinds, (
        ("Node", []), ("Number", ["top", "bottom"]), ("Unknown", ["place"]), ("Plus", ["one", "other"]),
        ("Minus", ["one", "other"]), ("Times", ["one", "other"]), ("Power", ["one", "many"]), ("kind_of", ["node"]),
    )),
    (kinds.Number, OF_A_NODE), (kinds.Unknown, OF_A_NODE), (kinds.Plus, OF_A_NODE), (kinds.Minus, OF_A_NODE),
    (kinds.Times, OF_A_NODE), (kinds.Power, OF_A_NODE),
    (worths, (
        ("exacts", ["nodes", "point"]), ("worths", ["nodes", "box", "grid"]), ("met", ["word", "a"]),
        ("bars", ["word", "span"]), ("sure", ["word", "span"]),
    )),
    (narrow, (("narrowed", ["nodes", "row", "box", "grid"]),)),
    (shaving, (("shaves", ["nodes", "row", "box", "grid"]),)),
    (sloping, (("slopes", ["nodes", "box", "grid"]),)),
    (matrices, (("determinant", ["matrix"]), ("inverse", ["matrix", "grid"]))),
    (alone, (
        ("step", ["nodes", "rows", "box", "grid", "turn"]), ("alone", ["nodes", "rows", "box", "grid"]),
        ("closer", ["nodes", "rows", "box", "grid", "rounds"]),
    )),
    (search, (
        ("search", ["nodes", "rows", "box", "grid", "fine", "looks"]), ("leaf_of", ["book", "point", "grid"]),
    )),
    (looker, (
        ("right_spans", ["nodes", "box", "grid", "spans"]), ("right_slopes", ["nodes", "box", "grid", "spans", "slopes"]),
        ("right_book", ["nodes", "rows", "box", "grid", "book"]),
    )),
    (islands, (("told", ["book"]), ("counts", ["book"]), ("islands", ["boxes"]))),
    (desk, (("Desk", []),)),
    (desk.Desk, (("tell", ["self", "line"]),)),
)


class Arguments(unittest.TestCase):
    def test_arguments(self):
        for holder, wanted in ARGUMENTS:
            for name, arguments in wanted:
                with self.subTest(name=name):
                    found = inspect.signature(getattr(holder, name)).parameters
                    self.assertEqual(list(found), arguments)


if __name__ == "__main__":
    unittest.main()
