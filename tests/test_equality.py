"""Point 16: whether two circuits do the same."""

import itertools
import random
import unittest

from chipstack.building import build
from chipstack.core import core_text
from chipstack.equality import (Deciding, Difference, bit_names, difference, ends_of, nodes_of, numbers_by, settled_nodes,
                                shows)
from chipstack.errors import GateError
from chipstack.gates import Netlist, Run, gate_value
from chipstack.isa import Size
from chipstack.plans import parse_plans
from chipstack.simplifying import simplified
from tests.netlists import WORDS, changed, drawn_netlist, plan
from tests.reckon import drawn_plans


def node_value(deciding, node, bits):
    """Return the answer of a node by a table of places to bits."""
    while node > 1:
        place, low, high = deciding.nodes[node]
        node = high if bits[place] else low
    return node


def bits_by(netlist, ins, kept):
    """Return the bits of all gates by what comes in and what is kept, as numbers by name."""
    bits = []
    for gate in netlist.gates:
        if gate[0] in ("in", "keep"):
            bits.append((ins if gate[0] == "in" else kept)[gate[1]] >> gate[2] & 1)
        else:
            bits.append(gate_value(gate, bits))
    return bits


class DecidingTest(unittest.TestCase):
    def test_nodes(self):
        deciding = Deciding()
        one = deciding.node(3, 0, 1)
        other = deciding.node(1, 1, one)
        self.assertEqual(deciding.node(3, 0, 1), one)
        self.assertGreater(min(one, other), 1)
        self.assertNotEqual(one, other)
        self.assertEqual([deciding.node(0, same, same) for same in (0, 1, one)], [0, 1, one])

    def test_picks_over_all_bits(self):
        deciding = Deciding()
        leaves = [deciding.node(place, 0, 1) for place in range(3)]
        nodes = [0, 1, *leaves, deciding.node(0, 1, 0), deciding.pick(leaves[0], leaves[2], leaves[1])]
        for test, one, other in itertools.product(nodes, repeat=3):
            found = deciding.pick(test, one, other)
            for bits in itertools.product((0, 1), repeat=3):
                values = [node_value(deciding, node, bits) for node in (test, one, other)]
                self.assertEqual(node_value(deciding, found, bits), values[2] if values[0] else values[1])

    def test_equal_functions_are_one_node(self):
        deciding = Deciding()
        a, b = deciding.node(0, 0, 1), deciding.node(1, 0, 1)
        row = [a, b]
        both = deciding.gate(("and", 0, 1), row)
        self.assertEqual(deciding.gate(("and", 1, 0), row), both)
        row.extend([deciding.gate(("not", 0), row), deciding.gate(("not", 1), row)])
        row.append(deciding.gate(("or", 2, 3), row))
        self.assertEqual(deciding.gate(("not", 4), row), both)
        self.assertEqual(deciding.gate(("pick", 0, 0, 1), row), both)
        self.assertEqual(deciding.gate(("xor", 0, 0), row), 0)
        self.assertEqual(deciding.gate(("or", 0, 2), row), 1)

    def test_gates(self):
        deciding = Deciding()
        row = [deciding.node(place, 0, 1) for place in range(3)]
        for word, many in WORDS.items():
            gate = (word, *range(many))
            found = deciding.gate(gate, row)
            for bits in itertools.product((0, 1), repeat=3):
                self.assertEqual(node_value(deciding, found, bits), gate_value(gate, bits))
        self.assertEqual([deciding.gate((word,), []) for word in ("zero", "one")], [0, 1])

    def test_some_way(self):
        deciding = Deciding()
        a, b, c = [deciding.node(place, 0, 1) for place in range(3)]
        self.assertEqual((deciding.some_way(0), deciding.some_way(1)), (None, {}))
        self.assertEqual(deciding.some_way(a), {0: 1})
        self.assertEqual(deciding.some_way(deciding.pick(a, 1, 0)), {0: 0})
        # At each node 0 if that can be.
        self.assertEqual(deciding.some_way(deciding.pick(a, b, 1)), {0: 0, 1: 1})
        self.assertEqual(deciding.some_way(deciding.pick(a, 0, deciding.pick(b, 1, c))), {0: 1, 1: 0})
        self.assertEqual(deciding.some_way(deciding.pick(a, c, deciding.pick(c, 1, 0))), {0: 0, 2: 1})

    def test_too_many_nodes(self):
        deciding = Deciding()
        for place in range(4000):
            deciding.node(place, 0, 1)
        self.assertEqual(deciding.node(3999, 0, 1), deciding.node(3999, 0, 1))
        many = len(deciding.nodes)
        self.assertRaises(GateError, deciding.node, 4000, 0, 1)
        self.assertRaises(GateError, deciding.pick, deciding.node(0, 0, 1), deciding.node(1, 0, 1), deciding.node(2, 0, 1))
        self.assertRaises(GateError, deciding.gate, ("xor", 0, 1), [deciding.node(5, 0, 1), deciding.node(6, 0, 1)])
        self.assertEqual(len(deciding.nodes), many)

    def test_what_raises_changes_nothing(self):
        deciding = Deciding()
        for place in range(3990):
            deciding.node(place, 0, 1)
        netlist = plan("in a 8", "in b 8", "out y 8", "y = a + b")
        nodes = dict(deciding.nodes)
        self.assertRaises(GateError, nodes_of, netlist, [("in", "x", 0)] * 4000 + list(bit_names(netlist)), deciding, {})
        self.assertEqual(deciding.nodes, nodes)
        row = [deciding.node(place, 0, 1) for place in range(20)]
        for at in range(18):
            row.append(deciding.node(at, 0, 1))
        self.assertRaises(GateError, self.many_gates, deciding, row)
        self.assertEqual(deciding.node(5000, 0, 1), max(deciding.nodes))

    def test_what_was_picked_is_forgotten_too(self):
        for pick in (lambda deciding, *key: deciding.pick(*key),
                     lambda deciding, *key: deciding.gate(("pick", 0, 1, 2), key)):
            deciding = Deciding()
            rows = [deciding.node(place, 0, 1) for place in range(3997)]
            one = deciding.node(0, rows[6], rows[7])
            # Three nodes are needed; there is room for two.
            self.assertRaises(GateError, pick, deciding, rows[5], one, rows[8])
            self.assertEqual(len(deciding.nodes), 3998)
            others = [deciding.node(place, 0, 1) for place in (4500, 4501)]
            self.assertEqual(len(deciding.nodes), 4000)
            for at in (6, 7):
                self.assertRaises(GateError, pick, deciding, rows[5], rows[at], rows[8])
            self.assertEqual([deciding.node(place, 0, 1) for place in (4500, 4501)], others)

    def many_gates(self, deciding, row):
        """Make nodes of gates up to an error; test that the one that raises leaves none."""
        for at in range(1, 20):
            nodes = dict(deciding.nodes)
            try:
                row[0] = deciding.gate(("xor", 0, at), row)
            except GateError:
                self.assertEqual(deciding.nodes, nodes)
                raise


class NodesTest(unittest.TestCase):
    def test_names_ascend(self):
        netlist = plan("in b 2", "in a 1", "out y 2", "keep z 1 = 0", "keep c 2 = 1", "z <- a", "c <- b", "y = c")
        self.assertEqual(bit_names(netlist), (("in", "a", 0), ("in", "b", 0), ("in", "b", 1), ("keep", "c", 0),
                                              ("keep", "c", 1), ("keep", "z", 0)))

    def test_nodes_of_drawn_netlists(self):
        for seed in range(30):
            netlist = drawn_netlist(seed)
            names, deciding = bit_names(netlist), Deciding()
            nodes = nodes_of(netlist, names, deciding, {})
            self.assertEqual(len(nodes), len(netlist.gates))
            for bits in itertools.product((0, 1), repeat=len(names)):
                told = {name: bit for name, bit in zip(names, bits)}
                values = []
                for gate in netlist.gates:
                    values.append(told[gate[:3]] if gate[:3] in told else gate_value(gate, values))
                self.assertEqual([node_value(deciding, node, bits) for node in nodes], values)

    def test_more_bits_below_each_other_than_calls_may_be(self):
        netlist = Netlist()
        for at in range(1500):
            netlist.add(("in", f"a{at // 30}", at % 30))
        last = 0
        for at in range(1, 1500):
            last = netlist.add(("and", last, at))
        deciding = Deciding()
        # Asked from the other end on, each gate has just one node more than the one ahead of it.
        nodes = nodes_of(netlist, [gate[:3] for gate in reversed(netlist.gates[:1500])], deciding, {})
        self.assertEqual(deciding.some_way(nodes[last]), {place: 1 for place in range(1500)})
        self.assertEqual(deciding.pick(nodes[last], 1, nodes[last]), 1)
        self.assertEqual(deciding.pick(nodes[last], 0, nodes[last]), nodes[last])

    def test_keeps_that_stand_still_are_their_first_bits(self):
        netlist = plan("in a 1", "out y 2", "keep k 2 = 2", "k <- k", "y = k")
        nodes = nodes_of(netlist, bit_names(netlist), Deciding(), {place: True for place in netlist.keeps()})
        self.assertEqual([nodes[place] for place in netlist.outs["y"]], [0, 1])

    def test_a_bit_that_is_not_told(self):
        self.assertRaises(GateError, nodes_of, plan("in a 1", "out y 1", "y = a"), (), Deciding(), {})

    def test_settled(self):
        for lines, still in ((("k <- k",), [0, 1]), (("k <- 1:2",), [0, 1]), (("k <- k & a",), [1]), (("k <- k | a",), [0]),
                             (("k <- a",), []), (("k <- k + 1:2",), []), (("k <- {k[1], ~a[0]}",), [1]),
                             (("k <- {k[1] & a[0], k[0]}",), [0, 1]), (("k <- {a[0], 1:1}",), [0]),
                             (("k <- if k == 1:2 then 1:2 else a",), [0, 1]), (("k <- {k[0], k[1]}",), [])):
            netlist = plan("in a 2", "out y 2", "keep k 2 = 1", *lines, "y = k")
            names, deciding = bit_names(netlist), Deciding()
            nodes, found = settled_nodes(netlist, names, deciding)
            keeps = netlist.keeps()
            self.assertEqual(sorted(found), [keeps[bit] for bit in still], lines)
            self.assertEqual(nodes, nodes_of(netlist, names, deciding, found))
            self.assertEqual(sorted(end for end in ends_of(netlist, found) if end[0] == "next"),
                             [("next", "k", bit) for bit in (0, 1) if bit not in still])

    def test_settled_keeps_are_never_anything_else(self):
        for seed in range(60):
            netlist = drawn_netlist(seed, ins=2, keeps=4, gates=6)
            still = settled_nodes(netlist, bit_names(netlist), Deciding())[1]
            draw, run = random.Random(seed), Run(netlist)
            for _ in range(40):
                for place in still:
                    self.assertEqual(run.state[place], netlist.gates[place][3])
                run.step({"a": draw.randrange(4)})

    def test_ends(self):
        netlist = plan("in a 1", "out y 2", "keep k 1 = 0", "keep c 1 = 1", "k <- a", "c <- ~k", "y = {k, a}")
        keeps = netlist.keeps()
        table = {("out", "y", 0): netlist.outs["y"][0], ("out", "y", 1): netlist.outs["y"][1],
                 ("next", "k", 0): netlist.nexts[keeps[0]], ("next", "c", 0): netlist.nexts[keeps[1]]}
        self.assertEqual(ends_of(netlist, {}), table)
        del table[("next", "c", 0)]
        self.assertEqual(ends_of(netlist, {keeps[1]: True}), table)

    def test_numbers_by(self):
        names = (("in", "a", 0), ("in", "a", 2), ("in", "b", 1), ("keep", "a", 1), ("keep", "k", 0))
        way = {0: 1, 1: 1, 3: 1, 4: 0}
        self.assertEqual(numbers_by(names, way, "in"), {"a": 5, "b": 0})
        self.assertEqual(numbers_by(names, way, "keep"), {"a": 2, "k": 0})
        self.assertEqual((numbers_by((), {}, "in"), way), ({}, {0: 1, 1: 1, 3: 1, 4: 0}))


class SameTest(unittest.TestCase):
    def test_built_and_simplified(self):
        for seed in range(40):
            drawing, plans = drawn_plans(seed, 2)
            netlist = build(plans, "plan1")
            try:
                found = difference(netlist, simplified(netlist))
            except GateError:
                continue
            self.assertIsNone(found, seed)
            self.assertIsNone(difference(netlist, netlist))

    def test_the_core(self):
        for data, code in ((2, 2), (3, 4), (4, 4)):
            netlist = build(parse_plans(core_text(Size(data, code))), "core")
            self.assertIsNone(difference(netlist, simplified(netlist)))
            self.assertIsNone(difference(simplified(netlist), netlist))

    def test_two_ways_to_reckon(self):
        head = ("in a 4", "in b 4", "out y 4", "out z 1")
        self.assertIsNone(difference(plan(*head, "y = a - b", "z = a < b"),
                                     plan(*head, "let d = wide(a, 5) - wide(b, 5)", "y = a + ~b + 1:4", "z = d[4]")))

    def test_keeps_that_only_one_has(self):
        head = ("in a 1", "out y 1")
        one = plan(*head, "keep k 1 = 0", "keep c 1 = 0", "k <- a", "c <- k", "y = k")
        self.assertIsNone(difference(one, simplified(one)))
        # A bit that comes in for one alone counts as any other; here nothing hangs on it.
        self.assertIsNone(difference(plan(*head, "y = a"), plan(*head, "in b 2", "y = a")))

    def test_keeps_that_stand_still(self):
        head = ("in a 1", "out y 1")
        for line in ("k <- k", "k <- 0:1", "k <- k & a"):
            self.assertIsNone(difference(plan(*head, "keep k 1 = 0", line, "y = k | a"), plan(*head, "y = a")))
            self.assertIsNone(difference(plan(*head, "y = a"), plan(*head, "keep k 1 = 0", line, "y = k | a")))
        # One stands still, the other one does not: what it takes next is not compared, what goes out is.
        self.assertIsNone(difference(plan(*head, "keep k 1 = 0", "k <- k", "y = a"),
                                     plan(*head, "keep k 1 = 0", "k <- a", "y = a")))
        found = difference(plan(*head, "keep k 1 = 0", "k <- k", "y = a | k"),
                           plan(*head, "keep k 1 = 0", "k <- a", "y = a | k"))
        self.assertEqual((found.end, found.comes, found.stored), (("out", "y", 0), {"a": 0}, {"k": 1}))

    def test_nothing_at_all(self):
        self.assertIsNone(difference(Netlist(), Netlist()))


class DifferenceTest(unittest.TestCase):
    def hold(self, one, other):
        """Test what is told of two netlists against all bits; return the difference."""
        found = difference(one, other)
        names = sorted(set(bit_names(one) + bit_names(other)))
        stills = [settled_nodes(each, bit_names(each), Deciding())[1] for each in (one, other)]
        ends = [ends_of(each, still) for each, still in zip((one, other), stills)]
        differing = {}
        for bits in itertools.product((0, 1), repeat=len(names)):
            told = [{"in": {}, "keep": {}} for _ in range(2)]
            for at, each in enumerate((one, other)):
                first = {each.gates[place][:3]: each.gates[place][3] for place in stills[at]}
                for (word, name, bit), value in zip(names, bits):
                    value = first.get((word, name, bit), value)
                    told[at][word][name] = told[at][word].get(name, 0) | value << bit
            rows = [bits_by(each, told[at]["in"], told[at]["keep"]) for at, each in enumerate((one, other))]
            for end in set(ends[0]) & set(ends[1]):
                if rows[0][ends[0][end]] != rows[1][ends[1][end]]:
                    differing[end] = True
        if not differing:
            self.assertIsNone(found)
            return None
        self.assertEqual(found.end, min(differing))
        self.assertEqual({shows(one, found), shows(other, found)}, {0, 1})
        return found

    def test_drawn_netlists_with_a_gate_changed(self):
        told = 0
        for seed in range(80):
            netlist = drawn_netlist(seed)
            other = changed(netlist, seed)
            shown = (netlist.shown(), other.shown())
            told += self.hold(netlist, other) is not None
            self.hold(netlist, simplified(netlist))
            self.assertEqual((netlist.shown(), other.shown()), shown)
        self.assertGreater(told, 20)

    def test_a_difference_shows_when_both_are_run(self):
        told = 0
        for seed in range(60):
            netlist = drawn_netlist(seed)
            other = changed(netlist, seed + 1000)
            found = difference(netlist, other)
            if found is None or found.end[0] != "out":
                continue
            outs = []
            for each in (netlist, other):
                run = Run(each)
                still = settled_nodes(each, bit_names(each), Deciding())[1]
                for place in each.keeps():
                    if place not in still:
                        run.state[place] = found.stored["k"] >> each.gates[place][2] & 1
                outs.append(run.given(found.comes)[found.end[1]] >> found.end[2] & 1)
                self.assertEqual(outs[-1], shows(each, found))
            self.assertNotEqual(outs[0], outs[1])
            told += 1
        self.assertGreater(told, 10)

    def test_the_least_end(self):
        head = ("in a 2", "out y 2", "out x 1", "keep k 1 = 0", "keep c 2 = 3")
        same = plan(*head, "k <- a[0]", "c <- a", "y = a", "x = k")
        for lines, end in ((("k <- ~a[0]", "c <- a", "y = ~a", "x = k"), ("next", "k", 0)),
                           (("k <- ~a[0]", "c <- {~a[1], a[0]}", "y = ~a", "x = k"), ("next", "c", 1)),
                           (("k <- a[0]", "c <- a", "y = ~a", "x = k"), ("out", "y", 0)),
                           (("k <- a[0]", "c <- a", "y = {~a[1], a[0]}", "x = k"), ("out", "y", 1)),
                           (("k <- a[0]", "c <- a", "y = ~a", "x = ~k"), ("out", "x", 0))):
            found = self.hold(same, plan(*head, *lines))
            self.assertEqual(found.end, end)
            self.assertIs(type(found.end), tuple)

    def test_bits_that_are_not_told_are_0(self):
        head = ("in a 4", "in b 2", "out y 1", "keep k 3 = 5", "keep s 2 = 2", "k <- {k[1:0], a[0]}", "s <- s")
        one, other = plan(*head, "y = k[2] & a[3] & s[1]"), plan(*head, "y = 0:1")
        found = difference(one, other)
        self.assertEqual((found.end, found.comes, found.stored), (("out", "y", 0), {"a": 8, "b": 0}, {"k": 4, "s": 2}))
        for both in ((plan("in a 1", "out y 1", "y = a"),
                      plan("in a 1", "out y 1", "keep s 3 = 5", "keep t 3 = 3", "s <- s", "t <- t", "y = ~a")),):
            for found in (difference(*both), difference(*both[::-1])):
                self.assertEqual((found.comes, found.stored), ({"a": 0}, {"s": 5, "t": 3}))

    def test_fields(self):
        comes, stored = {"a": 1}, {"k": 2}
        found = Difference(["out", "y", 0], comes, stored)
        self.assertEqual((found.end, found.comes, found.stored), (("out", "y", 0), comes, stored))
        found.comes["b"] = 1
        self.assertEqual(comes, {"a": 1})

    def test_shows(self):
        netlist = plan("in a 2", "out y 2", "keep k 1 = 1", "keep s 1 = 1", "k <- a[1]", "s <- s", "y = {k & s, a[0]}")
        for end, comes, stored, bit in ((("out", "y", 1), 0, {"k": 1, "s": 0}, 1), (("out", "y", 1), 0, {"k": 0, "s": 1}, 0),
                                        (("out", "y", 0), 1, {"k": 0, "s": 0}, 1), (("next", "k", 0), 2, {"k": 0, "s": 0}, 1),
                                        (("next", "k", 0), 1, {"k": 0, "s": 0}, 0)):
            self.assertEqual(shows(netlist, Difference(end, {"a": comes}, stored)), bit)
        for end, comes, stored in ((("out", "z", 0), {"a": 0}, {"k": 0, "s": 0}), (("out", "y", 1), {}, {"k": 0, "s": 0}),
                                   (("out", "y", 1), {"a": 0}, {})):
            self.assertRaises(GateError, shows, netlist, Difference(end, comes, stored))


class WrongTest(unittest.TestCase):
    def test_other_outs(self):
        one = plan("in a 2", "out y 2", "y = a")
        for lines in (("out z 2", "z = a"), ("out y 1", "y = a[0]"), ("out y 2", "out z 1", "y = a", "z = a[0]")):
            other = plan("in a 2", *lines)
            self.assertRaises(GateError, difference, one, other)
            self.assertRaises(GateError, difference, other, one)

    def test_keeps_that_begin_otherwise(self):
        lines = ("in a 2", "out y 2", "k <- a", "y = k")
        one, other = [plan(lines[0], f"keep k 2 = {first}", *lines[1:]) for first in (1, 3)]
        self.assertRaises(GateError, difference, one, other)
        self.assertRaises(GateError, difference, other, one)

    def test_keeps_of_other_names_may_begin_otherwise(self):
        lines = ("in a 1", "out y 1", "k <- a", "y = k")
        one = plan(lines[0], "keep k 1 = 0", *lines[1:])
        other = plan(lines[0], "keep c 1 = 1", "keep k 1 = 0", "c <- ~a", *lines[1:])
        self.assertIsNone(difference(one, other))
        self.assertIsNone(difference(other, one))

    def test_200_bits_and_201(self):
        def netlist(many, name):
            found = Netlist()
            for at in range(many):
                found.add(("in", f"{name}{at // 30}", at % 30))
            found.outs = {"y": [0]}
            return found

        self.assertIsNone(difference(netlist(200, "a"), netlist(200, "a")))
        self.assertIsNone(difference(netlist(120, "a"), netlist(200, "a")))
        self.assertRaises(GateError, difference, netlist(201, "a"), netlist(201, "a"))
        self.assertRaises(GateError, difference, netlist(100, "a"), netlist(101, "b"))
        found = difference(netlist(100, "a"), netlist(100, "b"))
        self.assertEqual((found.end, found.comes["a0"], found.comes["b0"]), (("out", "y", 0), 0, 1))

    def test_too_many_nodes(self):
        lines = ("in a 16", "in b 16", "out y 16", "y = a + b")
        self.assertRaises(GateError, difference, plan(*lines), plan(*lines))


if __name__ == "__main__":
    unittest.main()
