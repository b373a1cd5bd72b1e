"""Point 17: faults, and tests that find them."""

import random
import unittest

from chipstack.core import core_text
from chipstack.building import build
from chipstack.errors import GateError
from chipstack.faults import Test, TestMaker, all_faults, ends_by, fewer, finds, found_by, tests_for
from chipstack.gates import Netlist, gate_value
from chipstack.isa import Size
from chipstack.plans import parse_plans
from chipstack.simplifying import simplified
from tests.netlists import drawn_netlist, plan


def own_ends(netlist, test, fault=None):
    """Return the bits of all ends by a test, reckoned by the test itself."""
    bits = {}
    for place, gate in enumerate(netlist.gates):
        if gate[0] == "in":
            bits[place] = test.comes[gate[1]] >> gate[2] & 1
        elif gate[0] == "keep":
            bits[place] = test.stored[gate[1]] >> gate[2] & 1
        else:
            bits[place] = gate_value(gate, bits)
        if fault and fault[0] == place:
            bits[place] = fault[1]
    ends = [bits[place] for name in sorted(netlist.outs) for place in netlist.outs[name]]
    return tuple(ends + [bits[netlist.nexts[place]] for place in sorted(netlist.nexts)])


def shown(rows):
    """Return what tests show."""
    return [row.shown() for row in rows]


class FaultsTest(unittest.TestCase):
    def test_all_faults(self):
        netlist = plan("in a 1", "out y 1", "keep k 1 = 0", "k <- a", "y = ~k")
        words = [gate[0] for gate in netlist.gates]
        self.assertEqual(all_faults(netlist), tuple((place, bit) for place, word in enumerate(words)
                                                    if word not in ("zero", "one") for bit in (0, 1)))
        self.assertEqual(len(all_faults(netlist)), 6)
        self.assertEqual(all_faults(Netlist()), ())
        self.assertEqual(all_faults(plan("out y 1", "y = 1:1")), ())

    def test_ends(self):
        netlist = plan("in a 2", "out y 2", "out b 1", "keep z 1 = 0", "keep k 2 = 1", "z <- a[0]", "k <- ~k",
                       "y = a", "b = z")
        test = Test({"a": 2}, {"z": 1, "k": 1})
        # b, y from the lowest bit on, then what is kept next by place: z, k from the lowest bit on.
        self.assertEqual(ends_by(netlist, test), (1, 0, 1, 0, 0, 1))
        places = {gate[:3]: place for place, gate in enumerate(netlist.gates)}
        self.assertEqual(ends_by(netlist, test, (places[("in", "a", 0)], 1)), (1, 1, 1, 1, 0, 1))
        self.assertEqual(ends_by(netlist, test, (places[("keep", "k", 1)], 1)), (1, 0, 1, 0, 0, 0))
        self.assertEqual(ends_by(netlist, test, (places[("in", "a", 1)], 1)), ends_by(netlist, test))
        self.assertIs(type(ends_by(netlist, test)), tuple)

    def test_a_bit_stays_for_all_that_read_it(self):
        for seed in range(30):
            netlist = drawn_netlist(seed)
            draw = random.Random(seed)
            for _ in range(6):
                test = Test({"a": draw.randrange(8)}, {"k": draw.randrange(4)})
                self.assertEqual(ends_by(netlist, test), own_ends(netlist, test))
                for fault in all_faults(netlist):
                    self.assertEqual(ends_by(netlist, test, fault), own_ends(netlist, test, fault))
                    self.assertIs(finds(netlist, test, fault), own_ends(netlist, test) != own_ends(netlist, test, fault))

    def test_found_by(self):
        for seed in range(30):
            netlist, draw = drawn_netlist(seed), random.Random(seed)
            rows = [Test({"a": draw.randrange(8)}, {"k": draw.randrange(4)}) for _ in range(draw.randint(0, 5))]
            told = tuple(fault for fault in all_faults(netlist)
                         if any(own_ends(netlist, test) != own_ends(netlist, test, fault) for test in rows))
            before = (netlist.shown(), shown(rows))
            self.assertEqual(found_by(netlist, rows), told)
            self.assertEqual((netlist.shown(), shown(rows)), before)
        self.assertEqual(found_by(drawn_netlist(1), []), ())

    def test_more_faults_than_are_tried_at_once(self):
        for gates in (494, 495, 496, 1300):
            netlist = drawn_netlist(gates, gates=gates)
            faults = all_faults(netlist)
            self.assertEqual(len(faults), 2 * gates + 10)
            test = Test({"a": 5}, {"k": 2})
            found = found_by(netlist, [test])
            for fault in [*faults[:40], *faults[980:1030], *faults[1980:2020], *faults[-20:]]:
                self.assertIs(fault in found, finds(netlist, test, fault))
            self.assertEqual(sorted(set(found)), list(found))

    def test_what_lacks_in_a_test(self):
        netlist = plan("in a 1", "out y 1", "keep k 1 = 0", "k <- a", "y = k")
        for test in (Test({}, {"k": 0}), Test({"a": 0}, {}), Test({"k": 0}, {"a": 0})):
            self.assertRaises(GateError, ends_by, netlist, test)
            self.assertRaises(GateError, ends_by, netlist, test, (2, 1))
            self.assertRaises(GateError, finds, netlist, test, (2, 1))
            self.assertRaises(GateError, found_by, netlist, [test])
            self.assertRaises(GateError, fewer, netlist, [test])
            # So it is where all faults are found already.
            all_found = list(tests_for(netlist)[0])
            self.assertEqual(found_by(netlist, all_found), all_faults(netlist))
            self.assertRaises(GateError, found_by, netlist, [*all_found, test])

    def test_what_a_test_shows(self):
        comes, stored = {"b": 1, "a": 2}, {"z": 3, "c": 4}
        test = Test(comes, stored)
        self.assertEqual(test.shown(), ((("a", 2), ("b", 1)), (("c", 4), ("z", 3))))
        self.assertEqual((test.comes, test.stored), (comes, stored))
        test.comes["x"] = test.stored["y"] = 1
        self.assertEqual((comes, stored), ({"b": 1, "a": 2}, {"z": 3, "c": 4}))


class MakerTest(unittest.TestCase):
    def test_widths(self):
        netlist = plan("in b 3", "in a 1", "out y 3", "keep k 2 = 0", "k <- k", "y = b")
        self.assertEqual(TestMaker(netlist, 1).widths, {("in", "b"): 3, ("in", "a"): 1, ("keep", "k"): 2})
        self.assertEqual(TestMaker(Netlist(), 1).widths, {})

    def test_rolls(self):
        for many in (1, 2, 7, 2 ** 32):
            one, same, other = TestMaker(Netlist(), 5), TestMaker(Netlist(), 5), TestMaker(Netlist(), 6)
            rows = [one.roll(many) for _ in range(200)]
            self.assertEqual([same.roll(many) for _ in range(200)], rows)
            self.assertTrue(all(0 <= row < many for row in rows))
            if many > 1:
                self.assertNotEqual([other.roll(many) for _ in range(200)], rows)
                self.assertGreater(len(set(rows)), min(many, 100) - 1)

    def test_tests_fit(self):
        netlist = plan("in b 3", "in a 32", "out y 3", "keep k 2 = 0", "k <- k", "y = b")
        one, same = TestMaker(netlist, 9), TestMaker(netlist, 9)
        found = [one.next_test() for _ in range(100)]
        self.assertEqual(shown(found), [same.next_test().shown() for _ in range(100)])
        for test in found:
            self.assertEqual((sorted(test.comes), sorted(test.stored)), (["a", "b"], ["k"]))
        for name, table, width in (("b", "comes", 3), ("k", "stored", 2)):
            self.assertEqual({getattr(test, table)[name] for test in found}, set(range(2 ** width)))
        self.assertTrue(all(0 <= test.comes["a"] < 2 ** 32 for test in found))

    def test_what_comes_in_is_rolled_first(self):
        netlist = plan("in z 8", "out y 8", "keep a 8 = 0", "a <- z", "y = a")
        maker, rolls = TestMaker(netlist, 3), TestMaker(netlist, 3)
        for _ in range(10):
            test = maker.next_test()
            self.assertEqual((test.comes["z"], test.stored["a"]), (rolls.roll(256), rolls.roll(256)))


class TestsTest(unittest.TestCase):
    def test_which_are_kept(self):
        for seed in range(25):
            netlist = drawn_netlist(seed)
            found, left = tests_for(netlist, seed, 12)
            maker, kept, open_faults = TestMaker(netlist, seed), [], list(all_faults(netlist))
            for _ in range(12):
                test = maker.next_test()
                shows = [fault for fault in open_faults if own_ends(netlist, test) != own_ends(netlist, test, fault)]
                if shows:
                    kept.append(test)
                    open_faults = [fault for fault in open_faults if fault not in shows]
            self.assertEqual((shown(found), left), (shown(kept), tuple(open_faults)))
            self.assertEqual((type(found), type(left)), (tuple, tuple))
            self.assertEqual(sorted(found_by(netlist, found) + left), sorted(all_faults(netlist)))

    def test_left_out(self):
        netlist = plan("in a 4", "out y 4", "y = a")
        self.assertEqual(shown(tests_for(netlist)[0]), shown(tests_for(netlist, 1, 100)[0]))
        self.assertNotEqual(shown(tests_for(netlist, 2)[0]), shown(tests_for(netlist, 1)[0]))

    def test_a_fault_that_nothing_finds(self):
        netlist = plan("in a 1", "out y 1", "y = a | ~a")
        left = tests_for(netlist, 1, 50)[1]
        places = {gate[0]: place for place, gate in enumerate(netlist.gates)}
        # Both sides of what is always 1 may stay at 1, and so may what goes out.
        self.assertIn((places["or"], 1), left)
        self.assertNotIn((places["or"], 0), left)

    def test_no_tests_1000_and_1001(self):
        netlist = plan("in a 2", "out y 2", "y = a")
        self.assertEqual(tests_for(netlist, 1, 0), ((), all_faults(netlist)))
        self.assertEqual(tests_for(netlist, 1, 1000)[1], ())
        for most in (1001, 5000, -1):
            self.assertRaises(GateError, tests_for, netlist, 1, most)

    def test_a_circuit_without_gates(self):
        self.assertEqual(tests_for(Netlist(), 1, 5), ((), ()))
        self.assertEqual(fewer(Netlist(), [Test({}, {})]), ())

    def test_fewer(self):
        for seed in range(25):
            netlist = drawn_netlist(seed)
            rows = [TestMaker(netlist, seed + at).next_test() for at in range(6)]
            left = list(rows)
            for test in reversed(rows):
                others = [one for one in left if one is not test]
                if found_by(netlist, others) == found_by(netlist, left):
                    left = others
            given = list(rows)
            found = fewer(netlist, rows)
            self.assertEqual((list(found), rows), (left, given))
            self.assertIs(type(found), tuple)
            self.assertEqual(found_by(netlist, found), found_by(netlist, rows))
        test = rows[0]
        self.assertEqual(fewer(netlist, []), ())
        if found_by(netlist, [test]):
            self.assertEqual(len(fewer(netlist, [test, test, test])), 1)
            again = Test(test.comes, test.stored)
            self.assertIs(fewer(netlist, [test, again])[0], test)

    def test_the_core(self):
        netlist = simplified(build(parse_plans(core_text(Size(3, 3))), "core"))
        found, left = tests_for(netlist, 1, 400)
        self.assertLess(len(left), 10)
        less = fewer(netlist, found)
        self.assertLessEqual(len(less), len(found))
        self.assertEqual(found_by(netlist, less), found_by(netlist, found))
        for fault in found_by(netlist, less)[::40]:
            self.assertTrue(any(own_ends(netlist, test) != own_ends(netlist, test, fault) for test in less))


if __name__ == "__main__":
    unittest.main()
