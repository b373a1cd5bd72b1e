"""Point 28: the fast machine."""

import random
import unittest

from chipstack.building import build
from chipstack.core import Board, core_text
from chipstack.errors import RunError
from chipstack.fast import fast_text
from chipstack.gates import Run
from chipstack.isa import Machine, Size
from chipstack.plans import parse_plans
from chipstack.simplifying import simplified
from chipstack.tables import CellRun, cells_of
from tests.levels import found_run, netlist_of
from tests.machine import OwnMachine, drawn_code
from tests.reckon import Reckoning

SIZES = ((2, 2), (2, 8), (3, 5), (4, 4), (5, 3), (8, 2), (8, 8))


def fast_of(data, bits):
    """Return the fast machine of a size, simplified."""
    return netlist_of(fast_text(Size(data, bits)), "fast")


def own_beats(machine, most=200):
    """Let a machine of the test's own run; return how many beats the fast one takes for that, the first one too."""
    beats = 1
    for _ in range(most):
        if machine.halted:
            break
        word = machine.code[machine.at][0] if machine.at < len(machine.code) else "halt"
        taken = word == "jump" or (word == "zero" and machine.acc == 0) or (word == "less" and machine.carry == 1)
        machine.step()
        beats += 2 if word in ("from", "to") or taken else 1
    return beats


class PlanTest(unittest.TestCase):
    def test_the_names_of_the_core(self):
        for data, bits in SIZES:
            size = Size(data, bits)
            plans, core = parse_plans(fast_text(size)), parse_plans(core_text(size))["core"]
            self.assertEqual(list(plans), ["fast"])
            self.assertEqual((sorted(plans["fast"].ins()), sorted(plans["fast"].gives())),
                             (sorted(core.ins()), sorted(core.gives())))
            self.assertEqual(parse_plans(plans["fast"].plan_text())["fast"].lines, plans["fast"].lines)

    def test_it_begins_with_nothing_fetched(self):
        run = Run(fast_of(4, 4))
        outs = run.step({"code": 0, "data": 0, "come": 0})
        self.assertEqual(outs, {"at": 0, "where": 0, "write": 0, "value": 0, "send": 0, "take": 0, "stop": 0})
        # What was fetched, a halt, is carried out in the next beat, and stays.
        for code in (0, 0x13, 0xB0, 0x81):
            self.assertEqual(run.step({"code": code, "data": 1, "come": 1})["stop"], 1)


class BeatsTest(unittest.TestCase):
    def beats(self, code, coming=(), size=Size(4, 4)):
        """Return (beats, what went out) of code on the fast machine."""
        board = Board(Run(fast_of(size.data, size.code)), size, code, coming)
        self.assertIs(board.run(1000), True)
        machine = Machine(size, code, coming)
        self.assertIs(machine.run(1000), True)
        self.assertEqual((board.shown(), board.coming), ((machine.shown()[3], machine.shown()[4], True), machine.coming))
        return board.beats, board.sent

    def test_one_for_each_instruction(self):
        self.assertEqual(self.beats([]), (2, []))
        self.assertEqual(self.beats([("halt", 0)]), (2, []))
        self.assertEqual(self.beats([("set", 3), ("out", 0), ("halt", 0)]), (4, [3]))
        self.assertEqual(self.beats([("set", 3), ("store", 2), ("add", 2), ("half", 0), ("out", 0)]), (7, [3]))
        self.assertEqual(self.beats([("in", 0), ("out", 0), ("in", 0), ("out", 0)], (9, 30)), (6, [9, 14]))

    def test_from_and_to(self):
        self.assertEqual(self.beats([("set", 7), ("store", 3), ("to", 3), ("from", 3), ("out", 0)]), (9, [7]))
        self.assertEqual(self.beats([("from", 1), ("to", 1), ("out", 0)]), (7, [0]))

    def test_jumps_that_are_taken_and_not(self):
        self.assertEqual(self.beats([("jump", 2), ("out", 0)]), (4, []))
        self.assertEqual(self.beats([("jump", 1), ("out", 0)]), (5, [0]))
        self.assertEqual(self.beats([("zero", 2), ("out", 0)]), (4, []))
        self.assertEqual(self.beats([("set", 1), ("zero", 3), ("out", 0)]), (5, [1]))
        self.assertEqual(self.beats([("less", 2), ("out", 0)]), (4, [0]))
        self.assertEqual(self.beats([("set", 1), ("half", 0), ("less", 4), ("out", 0)]), (6, []))
        # Jumps to jumps, and to places behind the code's end.
        self.assertEqual(self.beats([("jump", 2), ("out", 0), ("jump", 4), ("out", 0), ("jump", 9)]), (8, []))

    def test_from_and_to_behind_a_jump(self):
        code = [("set", 5), ("store", 2), ("jump", 4), ("to", 2), ("from", 2), ("out", 0), ("jump", 8), ("to", 2), ("to", 2)]
        self.assertEqual(self.beats(code), (1 + 2 + 2 + 2 + 1 + 2 + 2 + 1, [0]))

    def test_a_halt_that_was_fetched_behind_a_jump(self):
        code = [("set", 6), ("jump", 3), ("halt", 0), ("out", 0), ("zero", 2), ("jump", 7), ("halt", 0), ("out", 0)]
        self.assertEqual(self.beats(code), (1 + 1 + 2 + 1 + 1 + 2 + 1 + 1, [6, 6]))

    def test_what_is_fetched_behind_a_halt_does_nothing(self):
        for word, number in (("out", 0), ("in", 0), ("store", 1), ("to", 1), ("jump", 0), ("from", 1), ("set", 3)):
            size = Size(4, 4)
            board = Board(Run(fast_of(4, 4)), size, [("set", 9), ("halt", 0), (word, number)], (1, 2))
            self.assertIs(board.run(3), True)
            shown, coming = board.shown(), list(board.coming)
            self.assertRaises(RunError, board.beat)
            # Even a board that goes on changes nothing any more.
            for _ in range(4):
                board.halted = False
                board.beat()
                self.assertEqual((board.shown(), board.coming), (shown, coming))

    def test_jumps_in_a_ring(self):
        board = Board(Run(fast_of(4, 4)), Size(4, 4), [("out", 0), ("jump", 2), ("jump", 0)])
        self.assertIs(board.run(101), False)
        self.assertEqual((len(board.sent), board.beats), (20, 101))


class SideBySideTest(unittest.TestCase):
    def test_drawn_codes_on_all_levels(self):
        halted = 0
        for number, (data, bits) in enumerate(SIZES):
            size, text = Size(data, bits), fast_text(Size(data, bits))
            plans = parse_plans(text)
            netlist = build(plans, "fast")
            less = simplified(netlist)
            cells = cells_of(less)
            core = simplified(build(parse_plans(core_text(size)), "core"))
            for seed in range(12):
                draw = random.Random(100 * number + seed)
                code = drawn_code(draw, data, bits, draw.randint(0, 2 ** bits), 0.1)
                coming = [draw.randrange(300) for _ in range(draw.randint(0, 8))]
                runs = [Run(less), CellRun(cells)] + ([Run(netlist), Reckoning(plans, "fast")] if seed < 3 else [])
                halted += self.hold(runs, Run(core), size, code, coming)
        self.assertGreater(halted, 40)

    def hold(self, runs, core, size, code, coming):
        """Hold the fast machine against one of the test's own, beats and all, and the core; return whether it halted."""
        own = OwnMachine(size.data, size.code, code, coming)
        beats = own_beats(own)
        if not own.halted:
            return False
        beside = Board(core, size, code, coming)
        self.assertIs(beside.run(2000), True)
        for run in runs:
            board = Board(run, size, code, coming)
            self.assertIs(board.run(beats - 1), False)
            self.assertIs(board.run(1), True)
            self.assertEqual(board.shown(), (tuple(own.memory.values()), tuple(own.sent), True))
            self.assertEqual((board.beats, board.coming), (beats, own.coming))
            self.assertEqual((board.shown(), board.coming), (beside.shown(), beside.coming))
        return True

    def test_codes_that_go_on(self):
        for seed in range(30):
            draw = random.Random(seed)
            code = drawn_code(draw, 4, 4, 16, 0)
            coming = [draw.randrange(300) for _ in range(20)]
            own, board = OwnMachine(4, 4, code, coming), Board(Run(fast_of(4, 4)), Size(4, 4), code, coming)
            beats = own_beats(own, 60)
            board.run(beats)
            self.assertEqual((board.shown(), board.coming), ((tuple(own.memory.values()), tuple(own.sent), False), own.coming))

    def test_behind_the_last_place(self):
        code = [("out", 0), ("set", 1), ("out", 0), ("set", 2)]
        board = Board(Run(fast_of(2, 2)), Size(2, 2), code)
        self.assertIs(board.run(8), False)
        self.assertEqual(board.sent, [0, 1, 2, 1])

    def test_in_the_bytes(self):
        size = Size(4, 5)
        run = found_run(fast_of(4, 5), 2)
        code = [("in", 0), ("store", 3), ("zero", 9), ("to", 3), ("from", 3), ("out", 0), ("load", 3), ("half", 0),
                ("jump", 1), ("out", 0)]
        board, own = Board(run, size, code, (13,)), OwnMachine(4, 5, code, (13,))
        beats = own_beats(own)
        self.assertIs(board.run(500), True)
        self.assertEqual((board.sent, board.beats), (own.sent, beats))


if __name__ == "__main__":
    unittest.main()
