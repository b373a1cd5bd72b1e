"""Point 7: cells of up to four inputs, and runs of them."""

import itertools
import random
import unittest

from chipstack.building import build
from chipstack.errors import GateError
from chipstack.gates import Run
from chipstack.plans import parse_plans
from chipstack.simplifying import simplified
from chipstack.tables import Cell, CellRun, Cells, Cut, Mapper, cells_of
from tests.reckon import Reckoning, drawn_plans
from tests.test_gates import drawn_netlist, netlist_of

A, B, C, D = ("in", "a", 0), ("in", "b", 0), ("in", "c", 0), ("in", "d", 0)


def read_numbers(cells):
    """Return the numbers of the cells that go out, keep, or are read by others."""
    found = set(cells.outs.values())
    for number, cell in enumerate(cells.cells):
        if cell.first is not None:
            found.add(number)
        found.update(row[1] for row in cell.inputs if row[0] == "cell")
    return found


def best_cuts(netlist):
    """Return what the best cut of each gate is ranked by: six cuts, and itself, are all that its readers see of it."""
    best, seen = [], []
    for place, gate in enumerate(netlist.gates):
        reads = netlist.inputs_of(place)
        if not reads:
            places = (place,) if gate[0] in ("in", "keep") else ()
            best.append((0, len(places), places))
            seen.append([places])
            continue
        unions = {tuple(sorted(set().union(*rows))) for rows in itertools.product(*[seen[one] for one in reads])}
        ranks = sorted((max([best[one][0] + 1 for one in places], default=0), len(places), places)
                       for places in unions if len(places) <= 4)
        best.append(ranks[0])
        seen.append([rank[2] for rank in ranks[:6]] + [(place,)])
    return best


class CellsTest(unittest.TestCase):
    def hold_to_point_7(self, netlist, cells):
        """Test that the cells of a netlist are as the document tells them."""
        self.assertEqual(sorted(read_numbers(cells)), list(range(len(cells.cells))))
        self.assertEqual(len([cell for cell in cells.cells if cell.first is not None]), len(netlist.keeps()))
        self.assertEqual(sorted(cells.outs),
                         sorted((name, bit) for name in netlist.outs for bit in range(len(netlist.outs[name]))))
        self.assertEqual(cells.pins, tuple(netlist.gates[place][1:] for place in netlist.ins()))
        for cell in cells.cells:
            self.assertIsInstance(cell.inputs, tuple)
            self.assertLessEqual(len(cell.inputs), 4)
            self.assertEqual(len(set(cell.inputs)), len(cell.inputs))
            self.assertTrue(0 <= cell.table < 1 << (1 << len(cell.inputs)))
        self.hold_order(cells)

    def hold_order(self, cells):
        """Test that cells that do not keep are each told behind those that they read."""
        order = cells.order()
        self.assertIsInstance(order, list)
        self.assertEqual(sorted(order), [number for number, cell in enumerate(cells.cells) if cell.first is None])
        for at, number in enumerate(order):
            for row in cells.cells[number].inputs:
                if row[0] == "cell" and cells.cells[row[1]].first is None:
                    self.assertIn(row[1], order[:at])

    def cell_of(self, gates, out):
        """Return (inputs, table, first) of the cell of the only out of some gates."""
        netlist = netlist_of(gates, {"x": [out]})
        cells = cells_of(netlist)
        self.hold_to_point_7(netlist, cells)
        return cells.cells[cells.outs[("x", 0)]].shown()

    def test_drawn_netlists(self):
        for seed in range(80):
            for netlist in (drawn_netlist(seed, 50), simplified(drawn_netlist(seed, 90))):
                shown = netlist.shown()
                cells = cells_of(netlist)
                self.assertEqual(netlist.shown(), shown)
                self.hold_to_point_7(netlist, cells)
                draw, runs = random.Random(seed), (Run(netlist), CellRun(cells))
                for _ in range(20):
                    ins = {"a": draw.randrange(4), "b": draw.randrange(4)}
                    self.assertEqual(runs[0].given(ins), runs[1].given(ins))
                    self.assertEqual(runs[0].step(ins), runs[1].step(ins))

    def test_drawn_plans(self):
        for seed in range(25):
            drawing, plans = drawn_plans(seed)
            for name in plans:
                netlist = simplified(build(plans, name))
                cells = cells_of(netlist)
                self.hold_to_point_7(netlist, cells)
                run, told = CellRun(cells), Reckoning(plans, name)
                for _ in range(20):
                    ins = drawing.ins_for(plans[name])
                    self.assertEqual(run.step(ins), told.step(ins))

    def test_fields(self):
        cell = Cell([A, ("cell", 3)], 6)
        self.assertEqual((cell.inputs, cell.table, cell.first), ((A, ("cell", 3)), 6, None))
        self.assertEqual(Cell((A,), 1, 0).shown(), ((A,), 1, 0))
        cells = Cells([cell], {("x", 0): 0}, [("a", 0)])
        self.assertEqual((cells.cells, cells.outs, cells.pins), ([cell], {("x", 0): 0}, (("a", 0),)))
        cut = Cut((2, 5), 3)
        self.assertEqual((cut.places, cut.depth), ((2, 5), 3))

    def test_four_inputs_are_one_cell(self):
        inputs, table, first = self.cell_of([A, B, C, D, ("and", 0, 1), ("or", 2, 3), ("xor", 4, 5)], 6)
        self.assertEqual((inputs, first), ((A, B, C, D), None))
        for number in range(16):
            a, b, c, d = [number >> at & 1 for at in range(4)]
            self.assertEqual(table >> number & 1, (a & b) ^ (c | d))

    def test_the_first_input_is_the_lowest_bit(self):
        inputs, table, first = self.cell_of([A, B, ("not", 1), ("and", 0, 2)], 3)
        answers = {(1, 0): 1, (0, 0): 0, (0, 1): 0, (1, 1): 0}
        for (a, b), bit in answers.items():
            place = sum({A: a, B: b}[row] << at for at, row in enumerate(inputs))
            self.assertEqual(table >> place & 1, bit)

    def test_five_inputs_are_two_cells(self):
        gates = [A, B, C, D, ("in", "e", 0), ("xor", 0, 1), ("xor", 2, 3), ("xor", 5, 6), ("xor", 7, 4)]
        self.assertEqual(len(cells_of(netlist_of(gates, {"x": [8]})).cells), 2)

    def test_a_bit_that_comes_in_and_goes_out(self):
        self.assertEqual(self.cell_of([A], 0), ((A,), 2, None))

    def test_outs_that_are_constants(self):
        self.assertEqual(self.cell_of([("zero",)], 0), ((), 0, None))
        self.assertEqual(self.cell_of([("one",)], 0), ((), 1, None))

    def test_what_comes_in_and_is_not_read(self):
        cells = cells_of(netlist_of([B, A, ("not", 1)], {"x": [2]}))
        self.assertEqual(cells.pins, (("b", 0), ("a", 0)))
        self.assertEqual([cell.shown() for cell in cells.cells], [((A,), 1, None)])

    def test_no_cells(self):
        cells = cells_of(netlist_of([A]))
        self.assertEqual((cells.cells, cells.outs, cells.pins, cells.order()), ([], {}, (("a", 0),), []))
        self.assertEqual(CellRun(cells).step({"a": 1}), {})

    def test_keeps(self):
        gates = [A, ("keep", "k", 0, 1), ("keep", "m", 0, 0), ("xor", 0, 1)]
        netlist = netlist_of(gates, {"x": [1], "y": [2], "z": [3]}, {1: 3, 2: 1})
        cells = cells_of(netlist)
        self.hold_to_point_7(netlist, cells)
        k, m, z = [cells.outs[(name, 0)] for name in "xyz"]
        self.assertEqual(cells.cells[m].shown(), ((("cell", k),), 2, 0))
        self.assertEqual(sorted(cells.cells[k].inputs), sorted((A, ("cell", k))))
        self.assertEqual((cells.cells[k].table, cells.cells[k].first), (6, 1))
        self.assertEqual((cells.cells[z].table, cells.cells[z].first), (6, None))

    def test_keeps_that_take_themselves_constants_or_what_comes_in(self):
        gates = [A, ("one",), ("keep", "k", 0, 0), ("keep", "k", 1, 0), ("keep", "k", 2, 1)]
        netlist = netlist_of(gates, {"x": [2, 3, 4]}, {2: 2, 3: 1, 4: 0})
        cells = cells_of(netlist)
        told = [cells.cells[cells.outs[("x", bit)]].shown() for bit in range(3)]
        self.assertEqual(told, [((("cell", cells.outs[("x", 0)]),), 2, 0), ((), 1, 0), ((A,), 2, 1)])
        run = CellRun(cells)
        self.assertEqual([run.step({"a": bit})["x"] for bit in (0, 1, 0)], [4, 2, 6])

    def test_order_is_not_deep(self):
        many = 3000
        rows = [Cell([("cell", number + 1)], 1) for number in range(many)]
        cells = Cells([*rows, Cell([A], 1)], {("x", 0): 0}, [("a", 0)])
        self.assertEqual(cells.order(), list(range(many, -1, -1)))
        self.assertEqual(CellRun(cells).step({"a": 1}), {"x": many % 2})

    def test_order_with_cells_that_keep(self):
        rows = [Cell([("cell", 2), ("cell", 1)], 6), Cell([("cell", 0)], 1, 1), Cell([("cell", 1), ("cell", 1)], 8)]
        self.assertEqual(Cells(rows, {("x", 0): 0}, []).order(), [2, 0])


class MapperTest(unittest.TestCase):
    def test_rank(self):
        self.assertEqual(Cut((2, 5), 3).rank(), (3, 2, (2, 5)))
        ranks = [Cut(places, depth).rank() for places, depth in (((1, 2), 1), ((1, 3), 1), ((0, 1, 2), 1), ((0,), 2))]
        self.assertEqual(sorted(ranks), ranks)

    def test_best(self):
        gates = [A, B, C, D, ("in", "e", 0), ("and", 0, 1), ("or", 5, 2), ("xor", 6, 3), ("and", 7, 4), ("not", 8)]
        mapper = Mapper(netlist_of(gates, {"x": [9]}))
        self.assertEqual((mapper.best, mapper.cells), ([], []))
        mapper.find_cuts()
        self.assertEqual([mapper.best[place].places for place in range(8)],
                         [(0,), (1,), (2,), (3,), (4,), (0, 1), (0, 1, 2), (0, 1, 2, 3)])
        self.assertEqual([cut.depth for cut in mapper.best], [0, 0, 0, 0, 0, 1, 1, 1, 2, 2])
        # Of the cuts of depth 2, those of two places are the fewest.
        self.assertEqual((mapper.best[8].places, mapper.best[9].places), ((4, 7), (4, 7)))

    def test_depths_are_the_least(self):
        for seed in range(20):
            netlist = drawn_netlist(seed, 40)
            mapper = Mapper(netlist)
            mapper.find_cuts()
            self.assertEqual(len(mapper.best), 40)
            for place, gate in enumerate(netlist.gates):
                cut = mapper.best[place]
                if netlist.inputs_of(place):
                    self.assertNotIn(place, cut.places)
                    self.assertLessEqual(len(cut.places), 4)
                    if cut.places:
                        self.assertEqual(cut.depth, 1 + max(mapper.best[one].depth for one in cut.places))

    def test_the_best_of_up_to_six(self):
        for seed in range(30):
            netlist = drawn_netlist(seed, 60)
            mapper = Mapper(netlist)
            mapper.find_cuts()
            told = best_cuts(netlist)
            self.assertEqual([(cut.depth, len(cut.places), cut.places) for cut in mapper.best], told)

    def test_table_of(self):
        mapper = Mapper(netlist_of([A, B, C, ("one",), ("pick", 0, 1, 2), ("and", 4, 3), ("not", 5)]))
        self.assertEqual(mapper.table_of(4, (0, 1, 2)), 0b11100100)
        self.assertEqual(mapper.table_of(6, (0, 1, 2)), 0b00011011)
        self.assertEqual(mapper.table_of(6, (5,)), 1)
        self.assertEqual(mapper.table_of(5, (5,)), 2)
        self.assertEqual(mapper.table_of(0, (0,)), 2)
        self.assertEqual(mapper.table_of(3, ()), 1)

    def test_source(self):
        mapper = Mapper(netlist_of([A, B, ("xor", 0, 1), ("not", 2)], {"x": [3]}))
        mapper.find_cuts()
        self.assertEqual(mapper.source(0), A)
        one, other = mapper.source(2), mapper.source(3)
        self.assertEqual(sorted([one, other]), [("cell", 0), ("cell", 1)])
        self.assertEqual((mapper.source(2), mapper.source(3)), (one, other))


class CellRunTest(unittest.TestCase):
    def cells(self):
        """Return cells that count what comes in, and tell whether both of its bits are 1."""
        rows = [Cell([A, ("cell", 0)], 6, 1), Cell([("cell", 0), A, ("cell", 1)], 0b01111000, 0),
                Cell([("cell", 0), ("cell", 1)], 8)]
        return Cells(rows, {("n", 0): 0, ("n", 1): 1, ("both", 0): 2}, [("a", 0)])

    def test_several_beats(self):
        run, count = CellRun(self.cells()), 1
        self.assertEqual(run.state, {0: 1, 1: 0})
        for bit in (1, 1, 0, 1, 1, 0, 1):
            want = {"n": count, "both": int(count == 3)}
            self.assertEqual(run.given({"a": bit}), want)
            self.assertEqual(run.values({"a": bit}), {0: count & 1, 1: count >> 1, 2: int(count == 3)})
            self.assertEqual(run.step({"a": bit}), want)
            count = (count + bit) % 4
            self.assertEqual(run.state, {0: count & 1, 1: count >> 1})

    def test_a_cell_that_reads_one_bit_twice(self):
        cells = Cells([Cell([A, A], 0b1000), Cell([A, A], 0b0110)], {("x", 0): 0, ("x", 1): 1}, [("a", 0)])
        run = CellRun(cells)
        self.assertEqual([run.step({"a": bit})["x"] for bit in (0, 1)], [0, 1])

    def test_a_name_that_lacks(self):
        rows = [Cell([A, ("cell", 0)], 6, 1), Cell([A], 1)]
        run = CellRun(Cells(rows, {("x", 0): 0, ("x", 1): 1}, [("a", 0)]))
        run.step({"a": 1})
        for call in (run.values, run.given, run.step):
            with self.assertRaises(GateError):
                call({"b": 1})
            self.assertEqual(run.state, {0: 0})

    def test_the_cells_given_stay(self):
        cells = self.cells()
        run = CellRun(cells)
        ins = {"a": 1}
        run.step(ins)
        self.assertEqual([cell.shown() for cell in run.cells.cells], [cell.shown() for cell in self.cells().cells])
        self.assertEqual(ins, {"a": 1})
        self.assertEqual(CellRun(cells).state, {0: 1, 1: 0})

    def test_a_counter_of_a_plan(self):
        text = "plan p\nin go 1\nout n 6\nkeep k 6 = 60\nk <- k + wide(go, 6)\nn = k\nend"
        run = CellRun(cells_of(simplified(build(parse_plans(text), "p"))))
        self.assertEqual([run.step({"go": 1})["n"] for _ in range(6)], [60, 61, 62, 63, 0, 1])


if __name__ == "__main__":
    unittest.main()
