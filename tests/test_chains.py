"""Point 18: chains."""

import random
import unittest

from chipstack.building import build
from chipstack.chains import chain_order, set_by_chain, with_chain
from chipstack.core import Board, core_text
from chipstack.errors import GateError
from chipstack.fabric import cells_in, fabric_bytes, fabric_from
from chipstack.gates import Netlist, Run, check_netlist
from chipstack.isa import Size
from chipstack.plans import parse_plans
from chipstack.simplifying import simplified
from chipstack.tables import CellRun, cells_of
from tests.machine import drawn_code
from tests.placed import Placed
from tests.reckon import drawn_plans
from tests.netlists import plan

THREE = plan("in a 2", "out y 2", "keep k 2 = 1", "keep c 1 = 1", "k <- a", "c <- ~c", "y = k")


def kept_bits(netlist, run):
    """Return the bits that are kept now, in the order of the keeps."""
    return tuple(run.state[place] for place in netlist.keeps())


class WithChainTest(unittest.TestCase):
    def test_names(self):
        netlist = with_chain(THREE)
        check_netlist(netlist)
        self.assertEqual(sorted(netlist.outs), ["tail", "y"])
        self.assertEqual(sorted(netlist.gates[place][1:] for place in netlist.ins()),
                         [("a", 0), ("a", 1), ("chain", 0), ("moves", 0)])
        self.assertEqual(chain_order(netlist), (("k", 0), ("k", 1), ("c", 0)))
        self.assertEqual(chain_order(THREE), chain_order(netlist))
        self.assertEqual(len(netlist.outs["tail"]), 1)

    def test_what_moves_where(self):
        netlist = with_chain(THREE)
        run = Run(netlist)
        self.assertEqual(kept_bits(netlist, run), (1, 0, 1))
        for bit, tail, after in ((0, 1, (0, 1, 0)), (1, 0, (1, 0, 1)), (1, 1, (1, 1, 0)), (0, 0, (0, 1, 1))):
            outs = run.step({"a": 3, "chain": bit, "moves": 1})
            self.assertEqual((outs["tail"], kept_bits(netlist, run)), (tail, after))
        # Without moving it is as before, whatever the chain brings.
        for bit in (0, 1):
            self.assertEqual(run.given({"a": 1, "chain": bit, "moves": 0}), {"y": 2, "tail": 1})
        run.step({"a": 1, "chain": 1, "moves": 0})
        self.assertEqual(kept_bits(netlist, run), (1, 0, 0))

    def test_without_keeps_and_with_one(self):
        netlist = with_chain(plan("in a 1", "out y 1", "y = ~a"))
        run = Run(netlist)
        for bit in (0, 1):
            for moves in (0, 1):
                self.assertEqual(run.step({"a": 0, "chain": bit, "moves": moves}), {"y": 1, "tail": bit})
        self.assertEqual((set_by_chain(run, {"a": 0}, []), chain_order(netlist)), ((), ()))
        self.assertRaises(GateError, set_by_chain, run, {"a": 0}, [1])
        one = with_chain(plan("in a 1", "out y 1", "keep k 1 = 0", "k <- a", "y = k"))
        run = Run(one)
        self.assertEqual(set_by_chain(run, {"a": 0}, [1]), (0,))
        self.assertEqual(set_by_chain(run, {"a": 0}, (0,)), (1,))
        self.assertEqual(kept_bits(one, run), (0,))

    def test_names_that_are_taken(self):
        for name in ("chain", "moves", "tail"):
            for lines in ((f"in {name} 1", "out y 1", f"y = {name}"), ("in a 1", f"out {name} 1", f"{name} = a"),
                          ("in a 1", "out y 1", f"keep {name} 1 = 0", f"{name} <- a", f"y = {name}")):
                netlist = plan(*lines)
                shown = netlist.shown()
                self.assertRaises(GateError, with_chain, netlist)
                self.assertEqual(netlist.shown(), shown)
        self.assertRaises(GateError, with_chain, with_chain(THREE))
        with_chain(plan("in chains 1", "out tails 1", "keep move 1 = 0", "move <- chains", "tails = move"))

    def test_what_is_given_stays(self):
        shown = THREE.shown()
        found = with_chain(THREE)
        found.outs["y"].append(0)
        found.gates.append(("zero",))
        self.assertEqual(THREE.shown(), shown)

    def test_an_empty_circuit(self):
        run = Run(with_chain(Netlist()))
        self.assertEqual(run.step({"chain": 1, "moves": 1}), {"tail": 1})


class SetByChainTest(unittest.TestCase):
    def test_bits_in_and_out(self):
        netlist = with_chain(THREE)
        run = Run(netlist)
        self.assertEqual(set_by_chain(run, {"a": 2}, [0, 0, 1]), (1, 0, 1))
        self.assertEqual(kept_bits(netlist, run), (0, 0, 1))
        self.assertEqual(set_by_chain(run, {"a": 0, "chain": 1, "moves": 0}, (1, 1, 0)), (0, 0, 1))
        self.assertEqual(run.kept(), {"k": 3, "c": 0})

    def test_another_number_of_bits(self):
        netlist = with_chain(THREE)
        run = Run(netlist)
        for bits in ((), (1,), (1, 1), (1, 1, 1, 1)):
            self.assertRaises(GateError, set_by_chain, run, {"a": 0}, bits)
        self.assertRaises(GateError, set_by_chain, run, {}, (0, 0, 0))
        self.assertEqual(kept_bits(netlist, run), (1, 0, 1))

    def test_what_is_given_stays(self):
        ins, bits = {"a": 1}, [0, 1, 0]
        set_by_chain(Run(with_chain(THREE)), ins, bits)
        self.assertEqual((ins, bits), ({"a": 1}, [0, 1, 0]))

    def test_drawn_plans_between_beats(self):
        for seed in range(30):
            drawing, plans = drawn_plans(seed, 2)
            netlist = simplified(build(plans, "plan1"))
            chained = with_chain(netlist)
            check_netlist(chained)
            draw, run, other = random.Random(seed), Run(netlist), Run(chained)
            for _ in range(12):
                ins = drawing.ins_for(plans["plan1"])
                if draw.random() < 0.4:
                    bits = [draw.randrange(2) for _ in netlist.keeps()]
                    self.assertEqual(set_by_chain(other, ins, bits), kept_bits(netlist, run))
                    run.state = dict(zip(netlist.keeps(), bits))
                outs = other.step({**ins, "chain": draw.randrange(2), "moves": 0})
                del outs["tail"]
                self.assertEqual(outs, run.step(ins))
                self.assertEqual(other.kept(), run.kept())

    def test_in_cells_and_in_what_is_found_in_the_bytes(self):
        for seed in range(8):
            drawing, plans = drawn_plans(seed, 2)
            netlist = with_chain(simplified(build(plans, "plan1")))
            cells = cells_of(netlist)
            found = cells_in(fabric_from(fabric_bytes(Placed(cells, seed=seed).fabric())))
            draw, run = random.Random(seed), Run(netlist)
            others = [CellRun(cells), CellRun(found)]
            for _ in range(8):
                ins = drawing.ins_for(plans["plan1"])
                bits = [draw.randrange(2) for _ in netlist.keeps()]
                came = set_by_chain(run, ins, bits)
                told = {**ins, "chain": 0, "moves": 0}
                outs = run.step(told)
                for other in others:
                    self.assertEqual((set_by_chain(other, ins, bits), other.step(told)), (came, outs))

    def test_a_machine_that_is_stopped_and_goes_on(self):
        size = Size(3, 4)
        netlist = with_chain(simplified(build(parse_plans(core_text(size)), "core")))

        class Still:
            """A run that does not move."""

            def __init__(self):
                self.run = Run(netlist)

            def given(self, ins):
                return self.run.given({**ins, "chain": 0, "moves": 0})

            def step(self, ins):
                return self.run.step({**ins, "chain": 0, "moves": 0})

        for seed in range(10):
            code = drawn_code(random.Random(seed), 3, 4, 12)
            one, other = Board(Still(), size, code, [1, 2, 3]), Board(Still(), size, code, [1, 2, 3])
            for _ in range(20):
                if one.halted:
                    break
                one.beat()
                # The bits come out, and are moved into another run, which goes on with them.
                ins = {"code": 0, "data": 0, "come": 0}
                many = len(netlist.keeps())
                bits = set_by_chain(other.circuit.run, ins, [0] * many)
                other.circuit = Still()
                set_by_chain(other.circuit.run, ins, bits)
                other.beat()
                self.assertEqual(one.shown(), other.shown())
                self.assertEqual(one.circuit.run.kept(), other.circuit.run.kept())


if __name__ == "__main__":
    unittest.main()
