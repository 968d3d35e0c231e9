"""Points 2, 9, 10 and 16: nodes, nets that grow, weights, and how a node is shown."""

import unittest

from boxnarrow import errors
from boxnarrow.grammar import tree_of
from boxnarrow.nets import Net, shown
from tests.helping import LONG, LONGER, is_int, refused

X = ("unknown", 0)
Y = ("unknown", 1)
# One node of each kind, and some that are parts twice.
EACH = [
    X, Y, ("number", -3, 2), ("number", 5, 1), ("plus", 0, 1), ("minus", 0, 1), ("times", 0, 1), ("power", 0, 3),
    ("plus", 4, 4), ("times", 5, 2), ("minus", 6, 6), ("power", 4, 2), ("minus", 1, 0),
]


def net_of(nodes):
    net = Net()
    for node in nodes:
        net.put(node)
    return net


def full_net(many=60):
    return net_of([("unknown", place) for place in range(many)])


class NetCase(unittest.TestCase):
    def check_put(self, net, node, wanted):
        answer = net.put(node)
        self.assertTrue(is_int(answer))
        self.assertEqual(answer, wanted)

    def check_nodes(self, net, wanted):
        answer = net.nodes()
        self.assertIs(type(answer), list)
        self.assertEqual([type(node) for node in answer], [tuple] * len(wanted))
        self.assertEqual(answer, wanted)

    def check_weight(self, net, at, wanted):
        answer = net.weight(at)
        self.assertTrue(is_int(answer))
        self.assertEqual(answer, wanted)

    def check_refused(self, net, *nodes):
        kept = net.nodes()
        weights = [net.weight(at) for at in range(len(kept))]
        for node in nodes:
            with self.subTest(node=node):
                refused(self, errors.TooMuch, net.put, node)
                self.check_nodes(net, kept)
                self.assertEqual([net.weight(at) for at in range(len(kept))], weights)


class Growing(NetCase):
    def test_without_nodes(self):
        self.check_nodes(Net(), [])

    def test_numbers_from_nought_on(self):
        net = Net()
        for number, node in enumerate(EACH):
            self.check_put(net, node, number)
            self.check_nodes(net, EACH[:number + 1])

    def test_alike_nodes(self):
        net = net_of(EACH)
        for time in range(2):
            for number, node in reversed(list(enumerate(EACH))):
                self.check_put(net, tuple(list(node)), number)
        self.check_nodes(net, EACH)

    def test_alike_ones_at_once(self):
        net = Net()
        self.check_put(net, X, 0)
        self.check_put(net, X, 0)
        self.check_put(net, ("number", 0, 1), 1)
        self.check_put(net, X, 0)
        self.check_put(net, ("number", 0, 1), 1)
        self.check_nodes(net, [X, ("number", 0, 1)])

    def test_nodes_that_are_not_alike(self):
        nodes = [
            X, Y, ("number", 1, 1), ("number", -1, 1), ("number", 1, 2), ("number", 0, 1), ("plus", 0, 1), ("plus", 1, 0),
            ("minus", 0, 1), ("minus", 1, 0), ("times", 0, 1), ("times", 1, 0), ("plus", 0, 0), ("power", 0, 2),
            ("power", 0, 3), ("power", 1, 2), ("times", 0, 0), ("unknown", 2), ("times", 0, 2), ("times", 0, 3),
        ]
        net = Net()
        for number, node in enumerate(nodes):
            self.check_put(net, node, number)
        self.check_nodes(net, nodes)

    def test_any_unknowns(self):
        net = Net()
        self.check_put(net, ("unknown", 7), 0)
        self.check_put(net, ("unknown", 1000), 1)
        self.check_put(net, X, 2)
        self.check_nodes(net, [("unknown", 7), ("unknown", 1000), X])

    def test_a_part_that_is_used_twice_stands_there_once(self):
        net = Net()
        first = net.put(("plus", net.put(X), net.put(Y)))
        second = net.put(("plus", net.put(X), net.put(Y)))
        self.assertEqual((first, second), (2, 2))
        self.check_put(net, ("times", first, second), 3)
        self.check_nodes(net, [X, Y, ("plus", 0, 1), ("times", 2, 2)])


class Weights(NetCase):
    def test_each_kind(self):
        net = net_of(EACH)
        for at, wanted in enumerate((1, 1, 1, 1, 2, 2, 2, 3, 4, 3, 4, 4, 2)):
            self.check_weight(net, at, wanted)

    def test_powers(self):
        for many in range(2, 7):
            net = net_of([X, ("power", 0, many), ("plus", 0, 0), ("power", 2, many)])
            self.check_weight(net, 1, many)
            self.check_weight(net, 2, 2)
            self.check_weight(net, 3, 2 * many)

    def test_numbers_are_not_heavier(self):
        net = net_of([("number", -999999998, 999999999), ("unknown", 999)])
        self.check_weight(net, 0, 1)
        self.check_weight(net, 1, 1)

    def test_sixteen(self):
        doubled = [X, ("plus", 0, 0), ("times", 1, 1), ("minus", 2, 2), ("plus", 3, 3)]
        net = net_of(doubled)
        for at, wanted in enumerate((1, 2, 4, 8, 16)):
            self.check_weight(net, at, wanted)
        self.check_put(net, ("power", 2, 4), 5)
        self.check_put(net, ("power", 3, 2), 6)
        self.check_weight(net, 5, 16)
        self.check_weight(net, 6, 16)

    def test_seventeen(self):
        net = net_of([X, ("plus", 0, 0), ("times", 1, 1), ("minus", 2, 2), ("plus", 3, 3)])
        self.check_refused(
            net, ("plus", 4, 0), ("plus", 0, 4), ("minus", 4, 0), ("minus", 0, 4), ("times", 4, 0), ("times", 0, 4),
        )
        # Fifteen, and one and two put to it.
        net = net_of([X, ("power", 0, 5), ("power", 1, 3), ("plus", 0, 0), ("plus", 2, 0)])
        self.check_weight(net, 2, 15)
        self.check_weight(net, 4, 16)
        self.check_refused(net, ("plus", 2, 3), ("times", 3, 2), ("minus", 2, 3))

    def test_above_by_powers(self):
        net = net_of([X, ("power", 0, 3), ("power", 0, 4), ("power", 1, 3), ("power", 1, 2)])
        self.check_weight(net, 3, 9)
        self.check_refused(
            net, ("power", 3, 2), ("power", 1, 6), ("power", 2, 5), ("power", 2, 6), ("power", 4, 3), ("times", 3, 3),
        )
        self.check_put(net, ("power", 1, 5), 5)
        self.check_put(net, ("power", 2, 4), 6)

    def test_a_net_that_refused_goes_on(self):
        net = net_of([X, ("power", 0, 6), ("power", 1, 2)])
        self.check_refused(net, ("power", 1, 3), ("power", 1, 3))
        self.check_put(net, Y, 3)
        self.check_put(net, ("plus", 2, 3), 4)
        self.check_weight(net, 4, 13)
        self.check_refused(net, ("power", 1, 3))
        self.check_nodes(net, [X, ("power", 0, 6), ("power", 1, 2), Y, ("plus", 2, 3)])


class HowMany(NetCase):
    def test_the_sixtieth_and_the_next(self):
        net = full_net(59)
        self.check_put(net, ("unknown", 59), 59)
        self.assertEqual(len(net.nodes()), 60)
        self.check_refused(
            net, ("unknown", 60), ("number", 1, 1), ("plus", 0, 1), ("minus", 0, 1), ("times", 0, 1), ("power", 0, 2),
        )

    def test_sixty_of_other_kinds(self):
        net = net_of([X] + [("number", top, 1) for top in range(58)])
        self.check_put(net, ("plus", 0, 58), 59)
        self.check_refused(net, ("plus", 58, 0), ("number", 58, 1))

    def test_an_alike_node_put_to_a_full_net(self):
        net = full_net()
        for place in (0, 30, 59):
            self.check_put(net, ("unknown", place), place)
        self.check_refused(net, ("unknown", 60))
        self.check_put(net, ("unknown", 59), 59)
        self.check_nodes(net, [("unknown", place) for place in range(60)])

    def test_too_heavy_and_full(self):
        net = net_of([("unknown", place) for place in range(57)] + [("power", 0, 4), ("power", 57, 4), Y, ("power", 0, 6)])
        self.assertEqual(len(net.nodes()), 60)
        self.check_refused(net, ("plus", 58, 0), ("power", 57, 5))
        self.check_put(net, ("power", 57, 4), 58)

    def test_a_refused_node_takes_no_place(self):
        net = net_of([X, ("power", 0, 4), ("power", 1, 4)])
        for time in range(70):
            refused(self, errors.TooMuch, net.put, ("power", 2, 2))
        for place in range(1, 58):
            self.check_put(net, ("unknown", place), place + 2)
        self.check_refused(net, ("unknown", 58))


class AskersOwn(NetCase):
    def test_two_nets_beside_one_another(self):
        one = Net()
        other = Net()
        self.check_put(one, X, 0)
        self.check_put(one, Y, 1)
        self.check_nodes(other, [])
        self.check_put(other, Y, 0)
        self.check_put(other, ("power", 0, 6), 1)
        self.check_put(one, ("plus", 0, 1), 2)
        self.check_nodes(one, [X, Y, ("plus", 0, 1)])
        self.check_nodes(other, [Y, ("power", 0, 6)])
        self.check_weight(one, 1, 1)
        self.check_weight(other, 1, 6)

    def test_a_list_that_the_asker_changed(self):
        net = net_of(EACH)
        nodes = net.nodes()
        nodes[0] = ("unknown", 99)
        nodes.append(("unknown", 98))
        self.check_nodes(net, EACH)
        nodes.clear()
        self.check_nodes(net, EACH)
        self.check_put(net, ("unknown", 98), len(EACH))
        self.check_weight(net, 0, 1)

    def test_a_list_told_earlier(self):
        net = net_of(EACH[:3])
        nodes = net.nodes()
        other = net.nodes()
        self.assertIsNot(nodes, other)
        net.put(EACH[3])
        self.assertEqual(nodes, EACH[:3])
        other.reverse()
        self.assertEqual(nodes, EACH[:3])


class Shown(unittest.TestCase):
    def check(self, nodes, at, wanted, names=("x", "y")):
        handed_nodes = list(nodes)
        handed_names = list(names)
        answer = shown(handed_nodes, at, handed_names)
        self.assertIs(type(answer), str)
        self.assertEqual(answer, wanted)
        self.assertEqual((handed_nodes, handed_names), (list(nodes), list(names)))

    def test_each_kind(self):
        wanted = (
            "x", "y", "-3/2", "5", "( x + y )", "( x - y )", "( x * y )", "( x ^ 3 )", "( ( x + y ) + ( x + y ) )",
            "( ( x - y ) * -3/2 )", "( ( x * y ) - ( x * y ) )", "( ( x + y ) ^ 2 )", "( y - x )",
        )
        for at, text in enumerate(wanted):
            self.check(EACH, at, text)

    def test_numbers(self):
        for node, text in (
            (("number", 0, 1), "0"), (("number", -7, 1), "-7"), (("number", 22, 7), "22/7"), (("number", -1, 2), "-1/2"),
            (("number", 999999999, 1), "999999999"), (("number", -999999998, 999999999), "-999999998/999999999"),
        ):
            self.check([node], 0, text)
            self.check([X, node, ("minus", 0, 1)], 2, f"( x - {text} )")
            self.check([X, node, ("power", 1, 2)], 2, f"( {text} ^ 2 )")

    def test_numbers_of_many_figures(self):
        self.check([("number", -LONG, LONGER)], 0, f"-{LONG}/{LONGER}")

    def test_powers(self):
        for many in range(2, 7):
            self.check([Y, ("power", 0, many)], 1, f"( y ^ {many} )")

    def test_names(self):
        nodes = [("unknown", 3), ("unknown", 0), ("plus", 0, 1), ("minus", 1, 0)]
        names = ("a", "b", "c", "speedway")
        self.check(nodes, 0, "speedway", names)
        self.check(nodes, 2, "( speedway + a )", names)
        self.check(nodes, 3, "( a - speedway )", names)

    def test_parts_twice(self):
        nodes = [X, ("plus", 0, 0), ("times", 1, 1), ("minus", 2, 2)]
        self.check(nodes, 1, "( x + x )")
        self.check(nodes, 2, "( ( x + x ) * ( x + x ) )")
        self.check(nodes, 3, "( ( ( x + x ) * ( x + x ) ) - ( ( x + x ) * ( x + x ) ) )")

    def test_nodes_that_are_no_part(self):
        # The unknown 9 has no name; it is no part of what is shown.
        nodes = [("unknown", 9), X, ("times", 0, 0), ("power", 1, 2), ("unknown", 8)]
        self.check(nodes, 1, "x")
        self.check(nodes, 3, "( x ^ 2 )")

    def test_of_a_net_that_grew(self):
        net = net_of(EACH)
        self.assertEqual(shown(net.nodes(), 9, ["u", "v"]), "( ( u - v ) * -3/2 )")

    def test_shown_and_read_again(self):
        for at in range(len(EACH)):
            text = shown(EACH, at, ["x", "y"])
            self.assertEqual(tree_of(text.split(" ")), self.tree(at))

    def tree(self, at):
        node = EACH[at]
        if node[0] == "number":
            return node
        if node[0] == "unknown":
            return ("name", "xy"[node[1]])
        if node[0] == "power":
            return ("power", self.tree(node[1]), node[2])
        return (node[0], self.tree(node[1]), self.tree(node[2]))


if __name__ == "__main__":
    unittest.main()
