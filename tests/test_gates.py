"""Point 5: gates, their levels, runs of them."""

import random
import unittest

from chipstack.errors import GateError
from chipstack.gates import Netlist, Run, check_netlist, gate_value


def netlist_of(gates, outs=None, nexts=None):
    """Return a netlist of gates."""
    netlist = Netlist()
    for gate in gates:
        netlist.add(gate)
    netlist.outs = dict(outs or {})
    netlist.nexts = dict(nexts or {})
    return netlist


def counter():
    """Return a netlist that counts to three while go comes in, from two on."""
    return netlist_of([("in", "go", 0), ("keep", "n", 0, 0), ("keep", "n", 1, 1), ("xor", 0, 1), ("and", 0, 1),
                       ("xor", 2, 4)], {"count": [1, 2], "more": [4]}, {1: 3, 2: 5})


def drawn_netlist(seed, many=30):
    """Return a netlist that is drawn: any gates over those ahead."""
    draw = random.Random(seed)
    gates = [("zero",), ("one",)] + [("in", name, bit) for name in "ab" for bit in range(2)]
    keeps = []
    while len(gates) < many:
        word = draw.choice(["not", "and", "or", "xor", "pick", "pick", "keep"])
        if word == "keep":
            keeps.append(len(gates))
            gates.append(("keep", draw.choice(["k", "m"]), len(gates), draw.randrange(2)))
        else:
            size = {"not": 1, "pick": 3}.get(word, 2)
            gates.append((word, *[draw.randrange(len(gates)) for _ in range(size)]))
    nexts = {place: draw.randrange(many) for place in keeps}
    outs = {"x": [draw.randrange(many) for _ in range(3)], "y": [draw.randrange(many)]}
    return netlist_of(gates, outs, nexts)


class NetlistTest(unittest.TestCase):
    def test_a_new_one(self):
        netlist = Netlist()
        self.assertEqual((netlist.gates, netlist.outs, netlist.nexts), ([], {}, {}))
        check_netlist(netlist)
        self.assertEqual(Run(netlist).step({}), {})

    def test_add(self):
        netlist = Netlist()
        self.assertEqual(netlist.add(("zero",)), 0)
        self.assertEqual(netlist.add(("not", 0)), 1)
        self.assertEqual(netlist.gates, [("zero",), ("not", 0)])

    def test_too_many(self):
        netlist = netlist_of([("zero",)] * 20000)
        self.assertEqual(len(netlist.gates), 20000)
        with self.assertRaises(GateError):
            netlist.add(("one",))
        self.assertEqual(netlist.gates, [("zero",)] * 20000)

    def test_inputs_of(self):
        netlist = netlist_of([("zero",), ("one",), ("in", "a", 3), ("keep", "k", 2, 1), ("not", 2), ("and", 0, 1),
                              ("or", 2, 3), ("xor", 3, 3), ("pick", 4, 5, 6)], {}, {3: 7})
        self.assertEqual([netlist.inputs_of(place) for place in range(9)],
                         [(), (), (), (), (2,), (0, 1), (2, 3), (3, 3), (4, 5, 6)])

    def test_keeps_ins_and_count(self):
        netlist = counter()
        self.assertEqual((netlist.keeps(), netlist.ins(), netlist.count()), ([1, 2], [0], 3))
        self.assertEqual(netlist_of([("zero",), ("one",)]).count(), 0)

    def test_shown(self):
        netlist = netlist_of([("in", "a", 0), ("keep", "k", 0, 1), ("keep", "k", 1, 0)],
                             {"y": [1, 0], "x": [2]}, {2: 0, 1: 2})
        self.assertEqual(netlist.shown(), ((("in", "a", 0), ("keep", "k", 0, 1), ("keep", "k", 1, 0)),
                                           (("x", (2,)), ("y", (1, 0))), ((1, 2), (2, 0))))

    def test_levels(self):
        self.assertEqual(counter().levels(), [0, 0, 0, 1, 1, 2])
        gates = [("zero",), ("in", "a", 0), ("one",), ("keep", "k", 0, 0), ("not", 0), ("and", 4, 1), ("pick", 2, 5, 4)]
        self.assertEqual(netlist_of(gates, {}, {3: 6}).levels(), [0, 0, 0, 0, 1, 2, 3])


class CheckTest(unittest.TestCase):
    def fails(self, gates, outs=None, nexts=None):
        """Test that gates are invalid."""
        netlist = netlist_of(gates, outs, nexts)
        shown = netlist.shown()
        with self.assertRaises(GateError):
            check_netlist(netlist)
        self.assertEqual(netlist.shown(), shown)

    def test_sound_ones(self):
        self.assertIsNone(check_netlist(counter()))
        for seed in range(20):
            check_netlist(drawn_netlist(seed))

    def test_gates_that_are_none(self):
        for gate in (("nand", 0, 0), ("zero", 0), ("one", 1), ("in", "a"), ("in", "a", 0, 0), ("keep", "k", 0),
                     ("not",), ("not", 0, 0), ("and", 0), ("and", 0, 0, 0), ("or", 0), ("xor", 0), ("pick", 0, 0), ()):
            self.fails([("zero",), gate], {}, {1: 0} if gate[:1] == ("keep",) else {})

    def test_gates_that_read_what_is_not_ahead(self):
        for gate in (("not", 1), ("not", 2), ("and", 0, 1), ("or", 1, 0), ("xor", 0, -1), ("pick", 0, 0, 1),
                     ("pick", 1, 0, 0)):
            self.fails([("zero",), gate])

    def test_bits_told_twice(self):
        self.fails([("in", "a", 0), ("in", "a", 0)])
        self.fails([("keep", "k", 1, 0), ("keep", "k", 1, 1)], {}, {0: 0, 1: 0})
        check_netlist(netlist_of([("in", "a", 0), ("in", "a", 1), ("in", "b", 0), ("keep", "a", 0, 0)], {}, {3: 0}))

    def test_outs_that_are_not_there(self):
        for place in (-1, 1, 5):
            self.fails([("zero",)], {"x": [0, place]})

    def test_nexts_that_are_not_there(self):
        keep = [("zero",), ("keep", "k", 0, 0)]
        check_netlist(netlist_of(keep, {}, {1: 1}))
        self.fails(keep)
        self.fails(keep, {}, {0: 0})
        self.fails(keep, {}, {1: 0, 0: 1})
        self.fails(keep, {}, {1: 2})
        self.fails(keep, {}, {1: -1})


class RunTest(unittest.TestCase):
    def test_gate_value(self):
        for number in range(8):
            bits = [number & 1, number >> 1 & 1, number >> 2 & 1]
            one, other, test = bits
            self.assertEqual(gate_value(("not", 0), bits), 1 - one)
            self.assertEqual(gate_value(("and", 0, 1), bits), one & other)
            self.assertEqual(gate_value(("or", 0, 1), bits), one | other)
            self.assertEqual(gate_value(("xor", 0, 1), bits), one ^ other)
            self.assertEqual(gate_value(("pick", 2, 0, 1), bits), other if test else one)

    def test_several_beats(self):
        run = Run(counter())
        count = 2
        self.assertEqual(run.state, {1: 0, 2: 1})
        for go in [1, 1, 0, 1, 0, 0, 1, 1, 1]:
            self.assertEqual(run.kept(), {"n": count})
            more = {"count": count, "more": go & count}
            self.assertEqual(run.given({"go": go}), more)
            self.assertEqual(run.step({"go": go}), more)
            count = (count + go) % 4
            self.assertEqual(run.state, {1: count & 1, 2: count >> 1})

    def test_kept(self):
        gates = [("keep", "k", 2, 1), ("keep", "m.n", 0, 1), ("keep", "k", 0, 0), ("keep", "k", 1, 1)]
        run = Run(netlist_of(gates, {}, {0: 0, 1: 2, 2: 2, 3: 0}))
        self.assertEqual(run.kept(), {"k": 6, "m.n": 1})
        run.step({})
        self.assertEqual(run.kept(), {"k": 6, "m.n": 0})

    def test_given_keeps_nothing(self):
        run = Run(counter())
        run.given({"go": 1})
        self.assertEqual((run.state, run.kept()), ({1: 0, 2: 1}, {"n": 2}))

    def test_values(self):
        run = Run(counter())
        self.assertEqual(run.values({"go": 1}), [1, 0, 1, 1, 0, 1])
        self.assertEqual(Run(netlist_of([("zero",), ("one",), ("in", "a", 2)])).values({"a": 4}), [0, 1, 1])

    def test_bits_are_counted_from_the_lowest(self):
        netlist = netlist_of([("in", "a", bit) for bit in range(4)], {"x": [0, 1, 2, 3], "y": [3, 2, 1, 0]})
        self.assertEqual(Run(netlist).step({"a": 11}), {"x": 11, "y": 13})

    def test_keeps_take_what_was_kept_before(self):
        netlist = netlist_of([("keep", "k", 0, 1), ("keep", "k", 1, 0)], {"x": [0, 1]}, {0: 1, 1: 0})
        run = Run(netlist)
        self.assertEqual([run.step({})["x"] for _ in range(4)], [1, 2, 1, 2])

    def test_a_name_that_lacks(self):
        run = Run(counter())
        run.step({"go": 1})
        state = dict(run.state)
        for call in (run.values, run.given, run.step):
            with self.assertRaises(GateError):
                call({"stop": 1})
            self.assertEqual(run.state, state)

    def test_what_is_given_stays(self):
        netlist = counter()
        shown = netlist.shown()
        run, ins = Run(netlist), {"go": 1, "more": 3}
        for _ in range(3):
            run.step(ins)
        self.assertEqual((netlist.shown(), ins), (shown, {"go": 1, "more": 3}))

    def test_two_runs_of_one_netlist(self):
        netlist = counter()
        one, other = Run(netlist), Run(netlist)
        one.step({"go": 1})
        self.assertEqual((one.kept(), other.kept()), ({"n": 3}, {"n": 2}))


if __name__ == "__main__":
    unittest.main()
