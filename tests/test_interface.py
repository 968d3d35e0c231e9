"""The interface: names and arguments as they stand in the document."""

import inspect
import unittest

from boxnarrow import backs, errors, fractions, grammar, nets, spans, words

ARGUMENTS = (
    (fractions, (
        ("fraction", ["top", "bottom"]), ("plus", ["a", "b"]), ("minus", ["a", "b"]), ("times", ["a", "b"]),
        ("power", ["a", "many"]), ("less", ["a", "b"]),
    )),
    (spans, (
        ("span_of", ["low", "high", "grid"]), ("holds", ["span", "a", "grid"]), ("add_spans", ["a", "b"]),
        ("take_spans", ["a", "b"]), ("mul_spans", ["a", "b", "grid"]), ("raise_span", ["a", "many", "grid"]),
        ("scale_span", ["a", "many"]), ("common", ["a", "b"]), ("hull", ["a", "b"]), ("inside", ["a", "b"]),
        ("deep", ["a", "b"]), ("width", ["a"]), ("middle", ["a"]), ("halves", ["a"]),
    )),
    (errors, (("NoName", ["word"]),)),
    (backs, (("back_times", ["z", "x", "y", "grid"]), ("back_power", ["z", "x", "many", "grid"]))),
    (words, (("number_of", ["word"]), ("written", ["a"]), ("is_name", ["word"]))),
    (grammar, (("tree_of", ["words"]),)),
    (nets, (("Net", []), ("shown", ["nodes", "at", "names"]))),
    (nets.Net, (("put", ["self", "node"]), ("nodes", ["self"]), ("weight", ["self", "at"]))),
)


class Arguments(unittest.TestCase):
    def test_arguments(self):
        for holder, wanted in ARGUMENTS:
            for name, arguments in wanted:
                with self.subTest(name=name):
                    found = inspect.signature(getattr(holder, name)).parameters
                    self.assertEqual(list(found), arguments)


if __name__ == "__main__":
    unittest.main()
