"""Point 6: simplified gates."""

import random
import unittest

from chipstack.building import build
from chipstack.gates import Run, check_netlist
from chipstack.simplifying import Simplifier, needed, simplified, simplified_once
from tests.reckon import Reckoning, drawn_plans
from tests.test_gates import drawn_netlist, netlist_of

A, B, C = ("in", "a", 0), ("in", "b", 0), ("in", "c", 0)
READING = ("not", "and", "or", "xor", "pick")


def opposite(gates, one, other):
    """Return True if one gate is not the other one."""
    return gates[one] == ("not", other) or gates[other] == ("not", one)


class SimplifiedTest(unittest.TestCase):
    def hold_to_point_6(self, netlist):
        """Test that nothing of a netlist could be simpler, as the document tells it."""
        gates = netlist.gates
        check_netlist(netlist)
        wanted = needed(netlist)
        self.assertEqual(len(set(gates)), len(gates))
        for place, gate in enumerate(gates):
            self.assertTrue(gate[0] == "in" or place in wanted, gate)
            reads = netlist.inputs_of(place)
            words = [gates[one][0] for one in reads]
            self.assertFalse("zero" in words or "one" in words, gate)
            self.assertEqual(len(set(reads)), len(reads), gate)
            if gate[0] == "not":
                self.assertNotEqual(words, ["not"])
            if gate[0] in ("and", "or", "xor"):
                self.assertLess(gate[1], gate[2])
            if gate[0] == "pick":
                for one, other in ((1, 2), (1, 3), (2, 3)):
                    self.assertFalse(opposite(gates, gate[one], gate[other]), gate)
            if gate[0] == "keep":
                after = netlist.nexts[place]
                self.assertNotEqual(after, place)
                self.assertNotEqual(gates[after], ("one",) if gate[3] else ("zero",))

    def do_the_same(self, one, other, beats=20):
        """Test that two netlists do the same."""
        draw = random.Random(1)
        names = sorted({gate[1] for gate in one.gates if gate[0] == "in"})
        runs = Run(one), Run(other)
        for _ in range(beats):
            ins = {name: draw.randrange(2 ** 32) for name in names}
            self.assertEqual(runs[0].step(ins), runs[1].step(ins))

    def simpler(self, gates, out, nexts=None):
        """Return the netlist of gates with one out, simplified, and test it."""
        netlist = netlist_of(gates, {"x": [out]}, nexts)
        shown = netlist.shown()
        found = simplified(netlist)
        self.assertEqual(netlist.shown(), shown)
        self.hold_to_point_6(found)
        self.do_the_same(netlist, found)
        return found

    def gate_of(self, gates, out, nexts=None):
        """Return the gate of the out of gates, simplified."""
        found = self.simpler(gates, out, nexts)
        return found.gates[found.outs["x"][0]]

    def test_drawn_netlists(self):
        for seed in range(150):
            netlist = drawn_netlist(seed, 20 + seed % 40)
            found = simplified(netlist)
            self.hold_to_point_6(found)
            self.do_the_same(netlist, found)
            self.do_the_same(netlist, simplified_once(netlist))
            for again in (simplified(found), simplified_once(found)):
                self.assertEqual(again.shown(), found.shown())

    def test_drawn_plans(self):
        for seed in range(25):
            drawing, plans = drawn_plans(seed)
            for name in plans:
                found = simplified(build(plans, name))
                self.hold_to_point_6(found)
                run, told = Run(found), Reckoning(plans, name)
                for _ in range(20):
                    ins = drawing.ins_for(plans[name])
                    self.assertEqual(run.step(ins), told.step(ins))

    def test_what_comes_in_stays(self):
        found = self.simpler([A, ("zero",), B, ("not", 0), C], 1)
        self.assertEqual([gate for gate in found.gates if gate[0] == "in"], [A, B, C])

    def test_what_no_out_hangs_on_goes(self):
        found = self.simpler([A, B, ("and", 0, 1), ("keep", "k", 0, 0), ("xor", 2, 3), ("or", 0, 1)], 5, {3: 4})
        self.assertEqual((found.gates, found.nexts), ([A, B, ("or", 0, 1)], {}))
        self.assertEqual(self.simpler([("zero",), ("one",), A], 2).gates, [A])

    def test_what_outs_hang_on_over_keeps_stays(self):
        gates = [A, ("keep", "k", 0, 0), ("keep", "m", 0, 0), ("not", 0)]
        found = self.simpler(gates, 1, {1: 2, 2: 3})
        self.assertEqual((found.gates, found.nexts), (gates, {1: 2, 2: 3}))

    def test_needed(self):
        netlist = netlist_of([A, B, ("keep", "k", 0, 0), ("keep", "m", 0, 0), ("not", 0), ("and", 0, 1)],
                             {"x": [2]}, {2: 4, 3: 5})
        found = needed(netlist)
        self.assertIsInstance(found, dict)
        self.assertEqual(sorted(found), [0, 2, 4])

    def test_no_gate_is_there_twice(self):
        found = self.simpler([A, B, ("and", 0, 1), ("and", 1, 0), ("not", 2), ("not", 3), ("pick", 0, 4, 1),
                              ("pick", 0, 5, 1), ("xor", 6, 1), ("or", 7, 8)], 9)
        self.assertEqual(len(found.gates), 7)

    def test_constants(self):
        for at, word in enumerate(("zero", "one")):
            told = {("and", 0, 1): [("zero",), A], ("or", 0, 1): [A, ("one",)], ("xor", 0, 1): [A, ("not", 0)]}
            for gate, wanted in told.items():
                self.assertEqual(self.gate_of([A, (word,), gate], 2), wanted[at])
            self.assertEqual(self.gate_of([(word,), ("not", 0)], 1), [("one",), ("zero",)][at])

    def test_one_place_twice(self):
        self.assertEqual(self.gate_of([A, ("and", 0, 0)], 1), A)
        self.assertEqual(self.gate_of([A, ("or", 0, 0)], 1), A)
        self.assertEqual(self.gate_of([A, ("xor", 0, 0)], 1), ("zero",))
        self.assertEqual(self.gate_of([A, B, ("pick", 1, 0, 0)], 2), A)

    def test_not_of_a_not(self):
        self.assertEqual(self.gate_of([A, ("not", 0), ("not", 1)], 2), A)
        self.assertEqual(self.gate_of([A, ("not", 0), ("not", 1), ("not", 2)], 3), ("not", 0))

    def test_a_bit_and_its_opposite(self):
        for word, told in (("and", "zero"), ("or", "one"), ("xor", "one")):
            self.assertEqual(self.gate_of([A, ("not", 0), (word, 0, 1)], 2), (told,))
            self.assertEqual(self.gate_of([A, ("not", 0), (word, 1, 0)], 2), (told,))

    def test_two_inputs_stand_ascending(self):
        for word in ("and", "or", "xor"):
            self.assertEqual(self.gate_of([A, B, (word, 1, 0)], 2), (word, 0, 1))

    def test_picks_that_stay(self):
        self.assertEqual(self.gate_of([A, B, C, ("pick", 2, 1, 0)], 3), ("pick", 2, 1, 0))

    def test_picks_with_constants(self):
        # The gates are a, b, zero, one; picks have their test first.
        told = {("pick", 0, 2, 1): ("and", 0, 1), ("pick", 0, 1, 3): ("or", 0, 1), ("pick", 0, 2, 3): A,
                ("pick", 0, 3, 2): ("not", 0), ("pick", 2, 0, 1): A, ("pick", 3, 0, 1): B, ("pick", 0, 2, 2): ("zero",),
                ("pick", 0, 3, 3): ("one",)}
        for gate, wanted in told.items():
            self.assertEqual(self.gate_of([A, B, ("zero",), ("one",), gate], 4), wanted, gate)
        for gate in (("pick", 0, 3, 1), ("pick", 0, 1, 2)):
            self.assertNotEqual(self.gate_of([A, B, ("zero",), ("one",), gate], 4)[0], "pick")

    def test_picks_with_their_test_or_its_opposite(self):
        # The gates are a, b, not a, not b.
        for gate in (("pick", 0, 0, 1), ("pick", 0, 1, 0), ("pick", 0, 2, 1), ("pick", 0, 1, 2), ("pick", 2, 0, 1),
                     ("pick", 2, 1, 0), ("pick", 0, 0, 0), ("pick", 0, 0, 2), ("pick", 0, 2, 0), ("pick", 2, 2, 1)):
            self.assertNotEqual(self.gate_of([A, B, ("not", 0), ("not", 1), gate], 4)[0], "pick", gate)

    def test_picks_with_opposite_sides(self):
        for gate in (("pick", 0, 1, 3), ("pick", 0, 3, 1), ("pick", 2, 1, 3)):
            self.assertNotEqual(self.gate_of([A, B, ("not", 0), ("not", 1), gate], 4)[0], "pick", gate)

    def test_keeps_that_are_constants(self):
        for bit, word in enumerate(("zero", "one")):
            self.assertEqual(self.gate_of([("keep", "k", 0, bit)], 0, {0: 0}), (word,))
            self.assertEqual(self.gate_of([(word,), ("keep", "k", 0, bit)], 1, {1: 0}), (word,))
            self.assertEqual(self.gate_of([(word,), ("keep", "k", 0, 1 - bit)], 1, {1: 0}), ("keep", "k", 0, 1 - bit))
            # What becomes a constant only when others are simpler is one all the same.
            self.assertEqual(self.gate_of([A, ("xor", 0, 0), ("keep", "k", 0, 0), ("keep", "k", 1, 0),
                                           ("and", 0, 3)], 4, {2: 1, 3: 2}), ("zero",))
            self.assertEqual(self.gate_of([A, ("keep", "k", 0, bit), ("pick", 0, 1, 1)], 1, {1: 2}), (word,))

    def test_keeps_that_are_no_constants(self):
        found = self.simpler([A, ("keep", "k", 0, 1), ("and", 0, 1)], 1, {1: 2})
        self.assertEqual((found.gates, found.nexts), ([A, ("keep", "k", 0, 1), ("and", 0, 1)], {1: 2}))

    def test_a_keep_that_takes_its_opposite(self):
        found = self.simpler([("keep", "k", 0, 0), ("not", 0)], 0, {0: 1})
        self.assertEqual(found.nexts, {0: 1})

    def test_as_many_gates_as_may_be(self):
        gates = [("in", f"a{at}", bit) for at in range(625) for bit in range(32)]
        netlist = netlist_of(gates, {"x": [0]})
        self.assertEqual(simplified(netlist).shown(), netlist.shown())


class SimplifierTest(unittest.TestCase):
    def test_put(self):
        maker = Simplifier()
        self.assertNotEqual(maker.zero, maker.one)
        self.assertEqual((maker.places[("zero",)], maker.places[("one",)]), (maker.zero, maker.one))
        place = maker.put(A)
        self.assertEqual((maker.put(A), maker.places[A]), (place, place))
        self.assertNotEqual(maker.put(B), place)
        self.assertEqual(maker.put(("zero",)), maker.zero)

    def test_opposite(self):
        maker = Simplifier()
        a, b = maker.put(A), maker.put(B)
        turned = maker.opposite(a)
        self.assertEqual(maker.places[("not", a)], turned)
        self.assertEqual((maker.opposite(turned), maker.opposite(a)), (a, turned))
        self.assertEqual((maker.opposite(maker.zero), maker.opposite(maker.one)), (maker.one, maker.zero))
        self.assertTrue(maker.are_opposite(a, turned) and maker.are_opposite(turned, a))
        for one, other in ((a, b), (b, turned), (a, a), (turned, turned)):
            self.assertFalse(maker.are_opposite(one, other))

    def test_gate(self):
        maker = Simplifier()
        a, b = maker.put(A), maker.put(B)
        self.assertEqual(maker.gate("and", (b, a)), maker.places[("and", a, b)])
        self.assertEqual(maker.gate("and", [a, maker.one]), a)
        self.assertEqual(maker.gate("xor", (a, maker.one)), maker.opposite(a))
        self.assertEqual(maker.gate("not", (maker.opposite(a),)), a)
        self.assertEqual(maker.gate("pick", (a, maker.zero, maker.one)), a)
        self.assertEqual(maker.gate("pick", (a, b, maker.opposite(b))), maker.places[("xor", a, b)])


if __name__ == "__main__":
    unittest.main()
