"""Point 1: each level does in each beat just what the one above does."""

import unittest

from chipstack.building import build
from chipstack.chains import set_by_chain, with_chain
from chipstack.compiling import compile_program, shortened
from chipstack.core import Board, core_text
from chipstack.direct import direct_text, run_direct
from chipstack.equality import difference
from chipstack.errors import CodeError
from chipstack.fabric import cells_in, fabric_bytes, fabric_from
from chipstack.fast import fast_text
from chipstack.gates import Run
from chipstack.isa import Machine, Size, encoded
from chipstack.plans import parse_plans
from chipstack.programs import parse_program, program_text
from chipstack.simplifying import simplified
from chipstack.station import Station, line_of, program_bytes, station_text
from chipstack.tables import CellRun, cells_of
from chipstack.timing import TimedRun
from chipstack.traffic import sender_text
from tests.levels import found_run, netlist_of
from tests.machine import Meaning, ProgramDrawing
from tests.placed import Placed
from tests.reckon import Reckoning
from tests.reckoned import Reckoned

PRIMES = """
var n = 2
var d = 0
var rest = 0
var prime = 0
rows seen 8
while n < 12
  prime = 1
  d = 2
  while d + d < n + 1
    rest = n
    while d < rest + 1
      rest = rest - d
    end
    if rest == 0
      prime = 0
    end
    d = d + 1
  end
  if prime
    out n
    seen[half(n)] = n
  end
  n = n + 1
end
out seen[in] + seen[in]
"""


class Timed:
    """A circuit that gives what cells give, but steps in time; it is tested that both send the same."""

    def __init__(self, placed, beat):
        self.cells = CellRun(placed.cells)
        self.timed = TimedRun(placed.cells, placed.timing(), beat)

    def given(self, ins):
        """Return what goes out, as the cells give it."""
        return self.cells.given(ins)

    def step(self, ins):
        """Return what goes out at the end of the beat in time."""
        outs = self.timed.step(ins)
        assert outs == self.cells.step(ins)
        return outs


class WithChain:
    """A circuit with a chain that does not move."""

    def __init__(self, run):
        self.run = run

    def given(self, ins):
        """Return what goes out."""
        return self.run.given({**ins, "chain": 1, "moves": 0})

    def step(self, ins):
        """Return what goes out, and keep what comes next."""
        return self.run.step({**ins, "chain": 1, "moves": 0})


def found_again(cells, seed):
    """Return the cells that are found in the bytes of cells that are placed and routed."""
    rows = fabric_bytes(Placed(cells, seed=seed).fabric())
    return cells_in(fabric_from(rows))


class WholeTest(unittest.TestCase):
    def circuits(self, size, seed):
        """Return runs of the core on all levels."""
        plans = parse_plans(core_text(size))
        netlist = build(plans, "core")
        less = simplified(netlist)
        cells = cells_of(less)
        placed = Placed(cells, seed=seed)
        found = cells_in(fabric_from(fabric_bytes(placed.fabric())))
        longest = placed.timing().longest
        chained = with_chain(less)
        return [Reckoning(plans, "core"), Run(netlist), Run(less), CellRun(cells_of(netlist)), CellRun(cells),
                CellRun(found), Timed(placed, longest), Timed(placed, longest + 5), WithChain(Run(chained)),
                WithChain(CellRun(found_again(cells_of(chained), seed)))]

    def hold(self, program, size, coming, seed):
        """Run a program on all levels, and hold what goes out against what it means."""
        meaning = Meaning(program, size.data, coming).run()
        for code in (compile_program(program, size), shortened(compile_program(program, size))):
            machine = Machine(size, code, coming)
            self.assertIs(machine.run(100000), True)
            self.assertEqual(machine.sent, meaning.sent)
            beats = []
            for circuit in self.circuits(size, seed):
                board = Board(circuit, size, code, coming)
                self.assertIs(board.run(100000), True)
                self.assertEqual((board.shown(), board.coming), ((tuple(machine.memory), tuple(meaning.sent), True),
                                                                 meaning.coming))
                beats.append(board.beats)
            self.assertEqual(len(set(beats)), 1)

    def test_a_program_from_its_text_to_the_bytes(self):
        program = parse_program(PRIMES)
        size = Size(5, 8)
        self.assertEqual(Meaning(program, 5, [1, 5]).run().sent, [2, 3, 5, 7, 11, 3 + 11])
        self.assertEqual(parse_program(program_text(program)).shown(), program.shown())
        code = shortened(compile_program(program, size))
        cells = cells_of(simplified(build(parse_plans(core_text(size)), "core")))
        board = Board(CellRun(found_again(cells, 3)), size, code, [1, 5])
        self.assertIs(board.run(5000), True)
        self.assertEqual(board.sent, [2, 3, 5, 7, 11, 14])

    def test_drawn_programs_on_all_levels(self):
        held = 0
        for seed in range(60):
            data = (2, 3, 4, 8)[seed % 4]
            drawing = ProgramDrawing(seed, data)
            program, coming = drawing.program(1), drawing.coming()
            bits = 5 + seed % 4
            try:
                code = compile_program(program, Size(data, bits))
            except CodeError:
                continue
            machine = Machine(Size(data, bits), code, coming)
            if held < 8 and machine.run(120):
                self.hold(program, Size(data, bits), coming, seed)
                held += 1
        self.assertEqual(held, 8)

    def test_found_again_and_told_as_the_same(self):
        size = Size(2, 3)
        netlist = build(parse_plans(core_text(size)), "core")
        self.assertIsNone(difference(netlist, simplified(netlist)))

    def test_what_is_kept_is_seen_by_the_chain_in_the_bytes(self):
        size = Size(3, 3)
        netlist = with_chain(simplified(build(parse_plans(core_text(size)), "core")))
        run, found = Run(netlist), CellRun(found_again(cells_of(netlist), 5))
        code = [("in", 0), ("store", 2), ("half", 0), ("from", 2), ("out", 0), ("jump", 0)]
        boards = [Board(WithChain(one), size, code, [7, 5, 3]) for one in (run, found)]
        for _ in range(20):
            for board in boards:
                board.beat()
            self.assertEqual(boards[0].shown(), boards[1].shown())
            ins, many = {"code": 0, "data": 0, "come": 0}, len(netlist.keeps())
            kept = tuple(run.state[place] for place in netlist.keeps())
            self.assertEqual(set_by_chain(found, ins, [0] * many), kept)
            self.assertEqual(set_by_chain(found, ins, kept), (0,) * many)

    def test_a_program_as_a_circuit_of_its_own_and_over_a_line(self):
        program, size, coming = parse_program(PRIMES), Size(5, 8), [1, 5]
        sent = [2, 3, 5, 7, 11, 14]
        direct = build(parse_plans(direct_text(program, 5)), "direct")
        runs = [Run(direct), Run(simplified(direct)), found_run(simplified(direct), 4)]
        self.assertEqual([run_direct(run, 5, coming, 20000) for run in runs], [(tuple(sent), True)] * 3)
        code = shortened(compile_program(program, size))
        line = line_of(found_run(netlist_of(sender_text(8, 3), "sender")), program_bytes(code, size), [2, 0, 7])
        for text, name in ((core_text(size), "core"), (fast_text(size), "fast")):
            station = Station(found_run(netlist_of(station_text(size, 3), "station")), found_run(netlist_of(text, name)), size,
                              coming)
            self.assertIs(station.run(line, 20000), True)
            self.assertEqual((station.board.sent, station.board.codes, station.spoilt),
                             (sent, [encoded(row, size) for row in code], False))

    def test_drawn_programs_mean_the_same_wherever_they_run(self):
        held = 0
        for seed in range(40):
            data = (3, 4, 8)[seed % 3]
            drawing = ProgramDrawing(seed, 8)
            drawing.data = data
            program, coming, size = drawing.program(1), drawing.coming(), Size(data, 8)
            meaning = Reckoned(program, data, coming).run()
            netlist = netlist_of(direct_text(program, data), "direct")
            self.assertEqual(run_direct(Run(netlist), data, coming, 20000), (tuple(meaning.sent), True))
            try:
                code = shortened(compile_program(program, size))
                line = line_of(Run(netlist_of(sender_text(8, 2), "sender")), program_bytes(code, size), [seed % 5, 0])
            except CodeError:
                continue
            station = Station(Run(netlist_of(station_text(size, 2), "station")), Run(netlist_of(fast_text(size), "fast")),
                              size, coming)
            self.assertIs(station.run(line, 20000), True)
            self.assertEqual((station.board.sent, station.board.coming), (meaning.sent, meaning.coming))
            held += 1
        self.assertGreater(held, 10)

    def test_a_direct_circuit_in_time_with_a_chain_and_in_the_same_words(self):
        program = parse_program("var n = 3\nrows r 2\nwhile n\nr[1] = r[1] + in\nout r[1]\nn = n - 1\nend")
        netlist = netlist_of(direct_text(program, 4), "direct")
        placed = Placed(cells_of(netlist), seed=2)
        timed = TimedRun(placed.cells, placed.timing(), placed.timing().longest)
        for run in (timed, WithChain(Run(with_chain(netlist)))):
            self.assertEqual(run_direct(run, 4, [5, 6, 7], 200), ((5, 11, 2), True))
        self.assertIsNone(difference(build(parse_plans(direct_text(program, 4)), "direct"), netlist))


if __name__ == "__main__":
    unittest.main()
