"""Point 26: circuits in stages."""

import random
import unittest

from chipstack.errors import GateError
from chipstack.gates import Netlist, Run, check_netlist
from chipstack.pipes import Stager, in_stages
from chipstack.plans import parse_plans
from chipstack.simplifying import simplified
from chipstack.tables import CellRun, cells_of
from chipstack.units import product_text, quotient_text, sorted_text
from tests.levels import found_run, netlist_of
from tests.netlists import drawn_netlist, plan
from tests.reckon import Drawing

ENDS = plan("in a 2", "out y 2", "out z 3", "y = a", "z = {a[1] & a[0], 1:1, 0:1}")


def drawn(seed):
    """Return a netlist that is drawn and keeps nothing: half of them of gates, half of plans."""
    if seed & 1:
        return drawn_netlist(seed, 3 + seed % 4, 0, 10 + seed % 30)
    drawing = Drawing(seed, 6)
    from chipstack.building import build
    from chipstack.plans import Plan
    lines = [line for line in drawing.plan_lines({}) if line[0] not in ("keep", "next")]
    text = Plan("p", lines).plan_text()
    for name in ("k0", "k1", "k2"):
        if name in drawing.known:
            text = text.replace("plan p\n", f"plan p\n  in {name} {drawing.known[name]}\n")
    return build(parse_plans(text), "p")


def ins_of(netlist):
    """Return the widths of what comes in, by name."""
    widths = {}
    for place in netlist.ins():
        _, name, bit = netlist.gates[place]
        widths[name] = max(widths.get(name, 0), bit + 1)
    return widths


class StagesTest(unittest.TestCase):
    def hold(self, netlist, many, seed, beats=24):
        """Hold a circuit in stages against itself so many beats before, with new numbers in every beat."""
        staged = in_stages(netlist, many)
        check_netlist(staged)
        draw, widths = random.Random(seed), ins_of(netlist)
        runs, told = [Run(staged), CellRun(cells_of(simplified(staged)))], []
        for beat in range(beats + many):
            ins = {name: draw.randrange(2 ** width) for name, width in widths.items()}
            told.append(Run(netlist).given(ins))
            outs = [run.step(ins) for run in runs]
            self.assertEqual(outs[0], outs[1])
            if beat >= many - 1:
                self.assertEqual(outs[0], told[beat - many + 1], (seed, many, beat))
        return staged

    def test_drawn_circuits(self):
        for seed in range(40):
            for many in (1, 2, 3, 1 + seed % 16):
                self.hold(drawn(seed), many, seed)

    def test_units(self):
        for text, name, many in ((product_text(6), "product", 5), (quotient_text(5), "quotient", 16),
                                 (sorted_text(5, 4), "sorted", 7)):
            netlist = netlist_of(text, name)
            staged = self.hold(netlist, many, 1)
            # Each stage is a part of the whole way.
            self.assertLessEqual(max(staged.levels()), -(-(max(netlist.levels()) + 1) // many))

    def test_found_in_the_bytes(self):
        netlist = netlist_of(product_text(3), "product")
        run = found_run(simplified(in_stages(netlist, 3)))
        told = [run.step({"a": number % 8, "b": number * 3 % 8})["product"] for number in range(20)]
        self.assertEqual(told[2:], [number % 8 * (number * 3 % 8) for number in range(18)])

    def test_more_stages_than_levels_and_sixteen(self):
        for many in (1, 2, 3, 4, 15, 16):
            self.hold(ENDS, many, many)
            self.hold(plan("in a 1", "out y 1", "y = a"), many, many)
            self.hold(plan("in a 1", "out y 2", "y = 2:2"), many, many)
            self.hold(netlist_of(product_text(4), "product"), many, many)

    def test_bits_that_are_kept_on_begin_with_zero(self):
        run = Run(in_stages(ENDS, 4))
        told = [run.step({"a": 3}) for _ in range(5)]
        self.assertEqual(told, [{"y": 0, "z": 0}] * 3 + [{"y": 3, "z": 6}] * 2)
        staged = in_stages(ENDS, 4)
        self.assertEqual([staged.gates[place][3] for place in staged.keeps()], [0] * len(staged.keeps()))
        # A gate of the last stage turns what is kept ahead of it.
        run = Run(in_stages(plan("in a 1", "out y 1", "y = ~a"), 2))
        self.assertEqual([run.step({"a": 1})["y"] for _ in range(3)], [1, 0, 0])

    def test_one_stage_keeps_nothing(self):
        for netlist in (ENDS, netlist_of(product_text(4), "product")):
            staged = in_stages(netlist, 1)
            self.assertEqual((staged.keeps(), staged.shown()), ([], netlist.shown()))

    def test_what_is_kept(self):
        chain = plan("in a 1", "in b 1", "out y 1", "y = ((a & b) | b) ^ a")
        staged = in_stages(chain, 2)
        levels = dict(zip(range(len(chain.gates)), chain.levels()))
        self.assertEqual(max(levels.values()), 3)
        # Levels 0 and 1 stand in the first stage: what they give, and b and a, are kept on once.
        self.assertEqual(len(staged.keeps()), 3)
        self.assertEqual(len({staged.gates[place][1:3] for place in staged.keeps()}), 3)
        self.assertEqual(staged.count(), chain.count())

    def test_nothing(self):
        self.assertEqual(in_stages(Netlist(), 3).shown(), ((), (), ()))


class StagerTest(unittest.TestCase):
    def test_stages_go_by_levels(self):
        for seed in range(12):
            netlist = drawn(seed)
            levels = netlist.levels()
            for many in (1, 2, 3, 5, 16):
                stages = Stager(netlist, many).stages
                self.assertEqual(stages, [level * many // (max(levels) + 1) for level in levels])
                self.assertEqual({stages[place] for place, gate in enumerate(netlist.gates)
                                  if gate[0] in ("in", "zero", "one")}, {0})
        self.assertEqual(Stager(Netlist(), 2).stages, [])


class WrongTest(unittest.TestCase):
    def test_circuits_that_keep_and_stages_that_are_none(self):
        keeps = plan("in a 1", "out y 1", "keep k 1 = 0", "k <- a", "y = a")
        for many in (1, 2, 16):
            self.assertRaises(GateError, in_stages, keeps, many)
        for many in (-1, 0, 17, 100):
            self.assertRaises(GateError, in_stages, ENDS, many)
        shown = keeps.shown()
        self.assertRaises(GateError, in_stages, keeps, 2)
        self.assertEqual(keeps.shown(), shown)

    def test_too_many_gates(self):
        netlist = Netlist()
        netlist.outs = {"y": [netlist.add(("in", "a", bit)) for bit in range(1300)]}
        self.assertEqual(len(in_stages(netlist, 15).gates), 1300 * 15)
        self.assertRaises(GateError, in_stages, netlist, 16)

    def test_what_is_given_stays(self):
        for seed in range(6):
            netlist = drawn(seed)
            shown = netlist.shown()
            staged = in_stages(netlist, 3)
            staged.outs.clear()
            staged.gates.append(("zero",))
            self.assertEqual(netlist.shown(), shown)


if __name__ == "__main__":
    unittest.main()
