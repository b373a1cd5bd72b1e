"""Point 15: the core's plan, and the board."""

import random
import unittest

from chipstack.building import build
from chipstack.core import Board, core_text
from chipstack.errors import CodeError, RunError
from chipstack.gates import Run
from chipstack.isa import Machine, Size, encoded
from chipstack.plans import parse_plans
from chipstack.simplifying import simplified
from chipstack.tables import CellRun, cells_of
from tests.machine import OwnMachine, drawn_code
from tests.reckon import Reckoning

SIZES = [(data, code) for data in (2, 3, 5, 8) for code in (2, 4, 8)]


def core_plans(data, code):
    """Return the plans of a core."""
    return parse_plans(core_text(Size(data, code)))


class OwnCore:
    """A circuit that gives and keeps what the core does, by the words of the document, for tests of the board alone."""

    def __init__(self, data, code_bits):
        self.data, self.code_bits = data, code_bits
        self.asked = []
        self.told = {}

    def given(self, ins):
        """Tell what goes out, whatever comes in."""
        self.asked.append(("given", dict(ins)))
        return dict(self.told)

    def step(self, ins):
        """Tell what goes out."""
        self.asked.append(("step", dict(ins)))
        return dict(self.told)


class PlanTest(unittest.TestCase):
    def test_names_and_widths(self):
        for data, code in SIZES:
            plans = core_plans(data, code)
            self.assertEqual(list(plans), ["core"])
            plan = plans["core"]
            self.assertEqual(plan.ins(), (("code", 4 + max(data, code)), ("data", data), ("come", data)))
            self.assertEqual(plan.gives(), (("at", code), ("where", data), ("write", 1), ("value", data), ("send", 1),
                                            ("take", 1), ("stop", 1)))
            keeps = [line[1:] for line in plan.of("keep")]
            self.assertEqual(keeps, [("place", code, 0), ("acc", data, 0), ("carry", 1, 0), ("phase", 1, 0),
                                     ("aim", data, 0)])
            self.assertEqual(parse_plans(plan.plan_text())["core"].lines, plan.lines)

    def test_what_goes_out_for_each_word(self):
        size = Size(4, 4)
        plans = core_plans(4, 4)
        for word, told in (("store", "write"), ("out", "send"), ("in", "take"), ("halt", "stop"), ("set", ""), ("load", ""),
                           ("add", ""), ("sub", ""), ("and", ""), ("xor", ""), ("jump", ""), ("zero", ""), ("less", ""),
                           ("half", ""), ("from", ""), ("to", "")):
            run = Run(build(plans, "core"))
            outs = run.step({"code": encoded((word, 0), size), "data": 5, "come": 3})
            self.assertEqual({name: outs[name] for name in ("write", "send", "take", "stop")},
                             {name: int(name == told) for name in ("write", "send", "take", "stop")})
            self.assertEqual(run.kept()["phase"], int(word in ("from", "to")))
            self.assertEqual(run.kept()["aim"], 5 if word in ("from", "to") else 0)
            self.assertEqual(run.kept()["place"], 0 if word in ("halt", "from", "to", "jump", "zero") else 1)

    def test_two_beats_of_from_and_to(self):
        size = Size(4, 4)
        for word in ("from", "to"):
            run = Run(build(core_plans(4, 4), "core"))
            run.step({"code": encoded(("set", 9), size), "data": 0, "come": 0})
            ins = {"code": encoded((word, 3), size), "data": 12, "come": 0}
            first = run.step(ins)
            self.assertEqual((first["at"], first["where"], first["write"]), (1, 3, 0))
            self.assertEqual((run.kept()["place"], run.kept()["phase"], run.kept()["aim"]), (1, 1, 12))
            ins["data"] = 6
            second = run.step(ins)
            self.assertEqual((second["at"], second["where"], second["write"], second["value"]), (1, 12, int(word == "to"), 9))
            self.assertEqual((run.kept()["place"], run.kept()["phase"]), (2, 0))
            self.assertEqual(run.kept()["acc"], 6 if word == "from" else 9)


class SideBySideTest(unittest.TestCase):
    def test_drawn_codes_on_all_levels(self):
        for number, (data, bits) in enumerate(SIZES):
            size, plans = Size(data, bits), core_plans(data, bits)
            netlist = build(plans, "core")
            less = simplified(netlist)
            circuits = (lambda: Reckoning(plans, "core"), lambda: Run(netlist), lambda: Run(less),
                        lambda: CellRun(cells_of(less)))
            for seed in range(6):
                draw = random.Random(100 * number + seed)
                code = drawn_code(draw, data, bits, draw.randint(1, 2 ** bits))
                coming = [draw.randrange(300) for _ in range(draw.randint(0, 8))]
                for circuit in circuits[seed & 1::2] if seed else circuits:
                    self.hold(circuit(), size, code, coming)

    def hold(self, circuit, size, code, coming):
        """Hold a board against a machine of the test's own, instruction by instruction."""
        board, own = Board(circuit, size, code, coming), OwnMachine(size.data, size.code, code, coming)
        beats = 0
        for _ in range(60):
            word = own.code[own.at][0] if own.at < len(code) else "halt"
            own.step()
            for _ in range(2 if word in ("from", "to") else 1):
                board.beat()
                beats += 1
            self.assertEqual(board.shown(), (tuple(own.memory.values()), tuple(own.sent), own.halted))
            self.assertEqual((board.beats, board.coming), (beats, own.coming))
            kept = circuit.kept() if hasattr(circuit, "kept") else {}
            if isinstance(circuit, Run):
                self.assertEqual((kept["acc"], kept["carry"], kept["place"], kept["phase"]),
                                 (own.acc, own.carry, own.at, 0))
            if own.halted:
                self.assertRaises(RunError, board.beat)
                self.assertEqual(board.beats, beats)
                break

    def test_behind_the_last_place_and_the_codes_end(self):
        size = Size(2, 2)
        netlist = build(core_plans(2, 2), "core")
        code = [("out", 0), ("set", 1), ("out", 0), ("set", 2)]
        board = Board(Run(netlist), size, code)
        self.assertIs(board.run(6), False)
        self.assertEqual((board.sent, board.beats), ([0, 1, 2], 6))
        board = Board(Run(netlist), size, [("jump", 3), ("out", 0)])
        self.assertIs(board.run(6), True)
        self.assertEqual((board.sent, board.beats), ([], 2))
        board = Board(Run(netlist), size, [])
        self.assertEqual((board.run(6), board.beats), (True, 1))

    def test_all_codes_that_are_instructions(self):
        size = Size(3, 3)
        netlist = simplified(build(core_plans(3, 3), "core"))
        for word, number in [(word, 5) for word in ("set", "load", "store", "add", "sub", "and", "xor", "jump", "zero",
                                                    "less", "from", "to")] + [("halt", 0), ("out", 0), ("in", 0), ("half", 0)]:
            code = [("in", 0), ("store", 5), ("in", 0), ("store", 2), ("in", 0), ("half", 0), (word, number)]
            for coming in ([2, 3, 7], [5, 1, 6], [7, 7, 0]):
                board, machine = Board(Run(netlist), size, code, coming), Machine(size, code, coming)
                for _ in code:
                    machine.step()
                board.run(6 + (2 if word in ("from", "to") else 1))
                self.assertEqual(board.shown(), (machine.shown()[3], machine.shown()[4], machine.halted))
                kept = board.circuit.kept()
                self.assertEqual((kept["acc"], kept["carry"], kept["place"]), machine.shown()[:3])


class BoardTest(unittest.TestCase):
    def test_at_the_beginning(self):
        code, coming = [("set", 3), ("out", 0)], [1, 2]
        board = Board(OwnCore(4, 4), Size(4, 4), code, coming)
        self.assertEqual((board.codes, board.coming, board.memory, board.sent, board.halted, board.beats),
                         ([16 + 3, 11 * 16], [1, 2], [0] * 16, [], False, 0))
        self.assertEqual(board.shown(), ((0,) * 16, (), False))
        self.assertEqual([board.code_at(place) for place in (0, 1, 2, 3, 15)], [19, 176, 0, 0, 0])

    def test_what_it_asks_and_does(self):
        core = OwnCore(4, 4)
        core.told = {"at": 1, "where": 5, "write": 1, "value": 9, "send": 1, "take": 1, "stop": 0}
        board = Board(core, Size(4, 4), [("set", 3), ("out", 0)], [16 + 7, 2])
        board.memory[5] = 4
        board.beat()
        self.assertEqual([word for word, _ in core.asked], ["given", "given", "step"])
        # It asks at which place the code is, then where the core looks with that code, and tells it all then.
        self.assertEqual(core.asked[1][1]["code"], 176)
        self.assertEqual(core.asked[2][1], {"code": 176, "data": 4, "come": 7})
        self.assertEqual((board.memory[5], board.sent, board.coming, board.halted, board.beats), (9, [9], [2], False, 1))
        core.told.update(write=0, send=0, take=0, stop=1)
        board.beat()
        self.assertEqual(core.asked[5][1], {"code": 176, "data": 9, "come": 2})
        self.assertEqual((board.memory[5], board.sent, board.coming, board.halted, board.beats), (9, [9], [2], True, 2))
        self.assertRaises(RunError, board.beat)
        self.assertEqual((len(core.asked), board.beats), (6, 2))
        self.assertIs(board.run(10), True)
        self.assertEqual(board.beats, 2)

    def test_what_comes_in_behind_the_last_number(self):
        core = OwnCore(4, 4)
        core.told = {"at": 0, "where": 0, "write": 0, "value": 0, "send": 0, "take": 1, "stop": 0}
        board = Board(core, Size(4, 4), [], [3])
        self.assertIs(board.run(3), False)
        self.assertEqual([ins["come"] for word, ins in core.asked if word == "step"], [3, 0, 0])
        self.assertEqual((board.coming, board.beats), ([], 3))
        self.assertIs(board.run(0), False)

    def test_code_that_is_none(self):
        size = Size(4, 2)
        for code in ([("set", 16)], [("halt", 1)], [("go", 0)], [("set",)], [("out", 0)] * 5, [("jump", 4)]):
            self.assertRaises(CodeError, Board, OwnCore(4, 2), size, code)
        self.assertEqual(len(Board(OwnCore(4, 2), size, [("out", 0)] * 4).codes), 4)

    def test_what_is_given_stays(self):
        code, coming = [("in", 0), ("in", 0)], [1, 2, 3]
        board = Board(Run(build(core_plans(4, 4), "core")), Size(4, 4), code, coming)
        board.run(10)
        self.assertEqual((code, coming, board.coming), ([("in", 0), ("in", 0)], [1, 2, 3], [3]))


if __name__ == "__main__":
    unittest.main()
