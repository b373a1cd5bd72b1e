"""Point 10: time."""

import random
import unittest

from chipstack.errors import GateError, PlaceError
from chipstack.placing import EAST, NORTH, SOUTH, WEST, Layout
from chipstack.routing import Routes, route_cells
from chipstack.tables import Cell, CellRun, Cells
from chipstack.timing import CELL, SETUP, WIRE, TimedRun, Timing, neighbour, number_of, timing_of, value_at, wires_back
from tests.cellsets import drawn_cells, shown_cells
from tests.placed import Placed, drawn_placed, placed_text

A = ("in", "a", 0)
NOT, HAND = 1, 2


def cell(number):
    """Return the row of a cell."""
    return ("cell", number)


def own_timing(placed):
    """Count when bits are there and reach cells, and how long each way is, by wires and tables."""
    cells = placed.cells.cells
    there, reaches = {}, {}

    def is_there(number):
        if number not in there:
            there[number] = 0 if cells[number].first is not None else last(number) + 4
        return there[number]

    def last(number):
        found = 0
        for source in cells[number].inputs:
            start = is_there(source[1]) if source[0] == "cell" else 0
            reaches[(source, number)] = start + placed.wires_to(source, number)
            found = max(found, reaches[(source, number)])
        return found

    ends = {number: last(number) + 4 + (0 if one.first is None else 2) for number, one in enumerate(cells)}
    for number in range(len(cells)):
        is_there(number)
    return there, reaches, ends


def run_both(placed, beat, rows):
    """Return what a timed run and a run of the cells send out."""
    timed, plain = TimedRun(placed.cells, placed.timing(), beat), CellRun(placed.cells)
    return [timed.step(ins) for ins in rows], [plain.step(ins) for ins in rows]


def row_of(cells, tiles, side, pads):
    """Return cells placed by hand."""
    return Placed(cells, Layout(side, tiles, pads))


def chain_of(many, keeps=False):
    """Return cells in a row that turn a bit one after another, each a tile further to the east."""
    rows = [Cell([A], NOT)] + [Cell([cell(at)], NOT) for at in range(many - 1)]
    if keeps:
        rows.append(Cell([cell(many - 1)], HAND, 0))
    cells = Cells(rows, {("y", 0): len(rows) - 1}, [("a", 0)])
    tiles = [(at, 0) for at in range(len(rows))]
    return row_of(cells, tiles, len(rows), {A: (WEST, 0), ("out", "y", 0): (EAST, 0)})


class TimingTest(unittest.TestCase):
    def test_numbers(self):
        self.assertEqual((CELL, WIRE, SETUP), (4, 1, 2))

    def test_neighbours(self):
        self.assertEqual([neighbour((3, 5), wall) for wall in (EAST, SOUTH, WEST, NORTH)],
                         [(4, 5), (3, 6), (2, 5), (3, 4)])
        self.assertEqual(neighbour((0, 0), WEST), (-1, 0))

    def test_at_the_beginning(self):
        timing = Timing()
        self.assertEqual((timing.there, timing.reaches, timing.longest, timing.worst), ({}, {}, 0, None))

    def test_no_cells(self):
        placed = Placed(Cells([], {}, []))
        timing = placed.timing()
        self.assertEqual((timing.there, timing.reaches, timing.longest, timing.worst), ({}, {}, 0, None))
        self.assertEqual(TimedRun(placed.cells, timing, 0).step({}), {})

    def test_one_cell_that_reads_nothing(self):
        placed = Placed(Cells([Cell([], 1)], {("y", 0): 0}, []))
        timing = placed.timing()
        self.assertEqual((timing.there, timing.reaches, timing.longest, timing.worst), ({0: 4}, {}, 4, 0))
        run = TimedRun(placed.cells, timing, 4)
        self.assertEqual(run.changes(0, {}, {}), ((0, 0), (4, 1)))
        self.assertEqual([run.step({}), run.step({})], [{"y": 1}] * 2)
        late = TimedRun(placed.cells, timing, 3)
        self.assertEqual([late.step({}), late.step({})], [{"y": 0}] * 2)

    def test_a_row_of_cells(self):
        placed = chain_of(3)
        timing = placed.timing()
        self.assertEqual(timing.there, {0: 4, 1: 9, 2: 14})
        self.assertEqual(timing.reaches, {(A, 0): 0, (cell(0), 1): 5, (cell(1), 2): 10})
        self.assertEqual((timing.longest, timing.worst), (14, 2))

    def test_what_is_kept_has_to_be_there_earlier(self):
        timing = chain_of(3, keeps=True).timing()
        self.assertEqual(timing.there, {0: 4, 1: 9, 2: 14, 3: 0})
        self.assertEqual(timing.reaches[(cell(2), 3)], 15)
        self.assertEqual((timing.longest, timing.worst), (15 + 4 + 2, 3))

    def test_a_bit_that_is_kept_and_goes_straight_out(self):
        placed = placed_text("plan p\nout y 1\nkeep k 1 = 1\nk <- ~k\ny = k\nend\n")
        timing = placed.timing()
        self.assertEqual((timing.there, timing.reaches), ({0: 0}, {(cell(0), 0): 0}))
        self.assertEqual((timing.longest, timing.worst), (6, 0))
        self.assertEqual(run_both(placed, 6, [{}] * 3)[0], [{"y": 1}, {"y": 0}, {"y": 1}])

    def test_wires_are_counted(self):
        for seed in range(1, 13):
            cells = drawn_cells(seed, 5 + 3 * seed, 4, 5)
            for placed in (Placed(cells, seed=seed), Placed(cells, seed=seed + 50)):
                shown = (shown_cells(cells), placed.layout.shown(), placed.routes.shown())
                timing = placed.timing()
                there, reaches, ends = own_timing(placed)
                self.assertEqual((timing.there, timing.reaches), (there, reaches))
                self.assertEqual(timing.longest, max(ends.values()))
                self.assertEqual(ends[timing.worst], timing.longest)
                self.assertEqual((shown_cells(cells), placed.layout.shown(), placed.routes.shown()), shown)
                for (source, number), way in placed.ways.items():
                    found = wires_back(placed.routes, placed.layout, placed.ways, source, number)
                    self.assertEqual(len(found), placed.wires_to(source, number))
                    self.assertEqual(len(set(found)), len(found))


class WiresBackTest(unittest.TestCase):
    def setUp(self):
        cells = Cells([Cell([A], NOT), Cell([cell(0)], NOT)], {}, [("a", 0)])
        self.layout = Layout(3, [(0, 0), (2, 0)], {A: (WEST, 0)})
        self.cells = cells
        self.routes, self.ways = route_cells(cells, self.layout)

    def back(self, source, number):
        """Return the wires to a cell."""
        return wires_back(self.routes, self.layout, self.ways, source, number)

    def test_from_the_cell_to_the_source(self):
        self.assertEqual(self.back(cell(0), 1), [(1, 0, EAST, 0), (0, 0, EAST, 0)])
        self.assertEqual(self.back(A, 0), [])

    def test_a_wire_of_another_net(self):
        self.routes.wires[(0, 0, EAST, 0)] = A
        self.assertRaises(PlaceError, self.back, cell(0), 1)
        self.assertRaises(PlaceError, timing_of, self.cells, self.layout, self.routes, self.ways)

    def test_a_wire_that_is_not_there(self):
        del self.routes.wires[(0, 0, EAST, 0)]
        self.assertRaises(PlaceError, self.back, cell(0), 1)

    def test_a_wire_that_carries_nothing_on(self):
        del self.routes.sources[(0, 0, EAST, 0)]
        self.assertRaises(PlaceError, self.back, cell(0), 1)

    def test_a_way_by_another_wire(self):
        for way in (("wire", WEST, 1), ("wire", SOUTH, 0), ("wire", EAST, 0), ("wire", NORTH, 0)):
            self.ways[(cell(0), 1)] = way
            self.assertRaises(PlaceError, self.back, cell(0), 1)

    def test_wires_that_go_round(self):
        self.routes.sources[(0, 0, EAST, 0)] = ("wire", EAST, 0)
        self.routes.wires[(1, 0, WEST, 0)] = cell(0)
        self.routes.sources[(1, 0, WEST, 0)] = ("wire", WEST, 0)
        self.assertRaises(PlaceError, self.back, cell(0), 1)

    def test_a_way_that_lacks(self):
        del self.ways[(cell(0), 1)]
        self.assertRaises(PlaceError, self.back, cell(0), 1)

    def test_a_way_out_of_the_square_beside_the_pad(self):
        self.ways[(A, 0)] = ("wire", NORTH, 0)
        self.assertRaises(PlaceError, self.back, A, 0)

    def test_tables_that_go_round(self):
        cells = Cells([Cell([cell(1)], NOT), Cell([cell(0)], NOT)], {}, [])
        layout = Layout(2, [(0, 0), (1, 0)], {})
        self.assertRaises(PlaceError, timing_of, cells, layout, *route_cells(cells, layout))

    def test_no_wires_at_all(self):
        self.assertRaises(PlaceError, timing_of, self.cells, self.layout, Routes(), self.ways)


class HelpersTest(unittest.TestCase):
    def test_value_at(self):
        rows = ((3, 1), (5, 0), (9, 1))
        self.assertEqual([value_at(rows, time) for time in range(-1, 11)], [1, 1, 1, 1, 1, 1, 0, 0, 0, 0, 1, 1])
        self.assertEqual(value_at(((0, 0),), 100), 0)

    def test_number_of(self):
        self.assertEqual([number_of([]), number_of([1]), number_of((0, 1)), number_of([1, 0, 1, 1])], [0, 1, 2, 13])


class TimedRunTest(unittest.TestCase):
    def test_side_by_side_with_cells(self):
        for seed in range(30):
            drawing, plan, placed = drawn_placed(seed)
            longest = placed.timing().longest
            rows = [drawing.ins_for(plan) for _ in range(25)]
            for beat in (longest, longest + 1, 3 * longest + 7):
                timed, plain = run_both(placed, beat, rows)
                self.assertEqual(timed, plain, seed)

    def test_state_and_before(self):
        for seed in range(10):
            drawing, plan, placed = drawn_placed(seed)
            timing = placed.timing()
            timed, plain = TimedRun(placed.cells, timing, timing.longest), CellRun(placed.cells)
            self.assertEqual((timed.before, timed.state), ({}, plain.state))
            self.assertIs(timed.cells, placed.cells)
            for _ in range(5):
                ins = drawing.ins_for(plan)
                bits = plain.values(ins)
                given = dict(ins)
                timed.step(ins)
                plain.step(ins)
                # What was before is the bit of each cell, also of those that keep: as it was, not as it comes next.
                self.assertEqual((timed.before, timed.state, ins), (bits, plain.state, given))

    def test_changes_follow_each_other(self):
        for seed in range(10):
            drawing, plan, placed = drawn_placed(seed)
            timing = placed.timing()
            timed, plain = TimedRun(placed.cells, timing, timing.longest), CellRun(placed.cells)
            for _ in range(4):
                ins, seen = drawing.ins_for(plan), {}
                for number in placed.cells.order():
                    rows = seen[number] = timed.changes(number, ins, seen)
                    self.assertIs(type(rows), tuple)
                    self.assertEqual(rows[0], (0, timed.before.get(number, 0)))
                    for (time, bit), (later, other) in zip(rows, rows[1:]):
                        self.assertLess(time, later)
                        self.assertNotEqual(bit, other)
                    self.assertLessEqual(rows[-1][0], timing.there[number])
                    self.assertEqual(rows[-1][1], plain.values(ins)[number])
                timed.step(ins)
                plain.step(ins)

    def test_a_change_runs_along_a_row(self):
        placed = chain_of(3)
        run = TimedRun(placed.cells, placed.timing(), 14)
        first = run.changes(0, {"a": 0}, {})
        self.assertEqual(first, ((0, 0), (4, 1)))
        second = run.changes(1, {"a": 0}, {0: first})
        self.assertEqual(second, ((0, 0), (5 + 0, 1), (9, 0)))
        run.step({"a": 0})
        self.assertEqual(run.before, {0: 1, 1: 0, 2: 1})
        self.assertEqual(run.changes(0, {"a": 0}, {}), ((0, 1),))
        seen = {0: run.changes(0, {"a": 1}, {})}
        self.assertEqual(seen[0], ((0, 1), (4, 0)))
        seen[1] = run.changes(1, {"a": 1}, seen)
        self.assertEqual(seen[1], ((0, 0), (9, 1)))
        self.assertEqual(run.changes(2, {"a": 1}, seen), ((0, 1), (14, 0)))

    def test_bits_that_are_kept_come_over_wires(self):
        rows = [Cell([cell(0)], NOT, 0), Cell([cell(0), A], 0b0110)]
        pads = {A: (WEST, 2), ("out", "y", 0): (EAST, 0)}
        placed = row_of(Cells(rows, {("y", 0): 1}, [("a", 0)]), [(0, 0), (2, 0)], 3, pads)
        timing = placed.timing()
        self.assertEqual((timing.reaches[(cell(0), 1)], timing.reaches[(A, 1)]), (2, 4))
        run = TimedRun(placed.cells, timing, 20)
        # The kept bit goes from 0 to 1 with the second beat: it reaches the other cell at 2, what comes in at 4.
        self.assertEqual(run.changes(1, {"a": 1}, {}), ((0, 0), (6, 1)))
        self.assertEqual(run.step({"a": 1}), {"y": 1})
        self.assertEqual((run.state, run.before), ({0: 1}, {0: 0, 1: 1}))
        self.assertEqual(run.changes(1, {"a": 1}, {}), ((0, 1), (6, 0)))
        self.assertEqual(run.changes(1, {"a": 0}, {}), ((0, 1), (6, 0), (8, 1)))

    def test_what_came_in_before_stays_on_the_wires(self):
        far = ("in", "a", 2)
        pads = {far: (NORTH, 2), ("in", "b", 0): (WEST, 0), ("out", "y", 0): (EAST, 2)}
        placed = row_of(Cells([Cell([far, ("in", "b", 0)], 0b0110)], {("y", 0): 0}, [("a", 2), ("b", 0)]), [(0, 0)], 3, pads)
        timing = placed.timing()
        self.assertEqual((timing.reaches[(far, 0)], timing.reaches[(("in", "b", 0), 0)]), (2, 0))
        run = TimedRun(placed.cells, timing, 9)
        # What comes in first was there before, as what is kept first was.
        self.assertEqual(run.changes(0, {"a": 4, "b": 0}, {}), ((0, 0), (4, 1)))
        self.assertEqual(run.changes(0, {"a": 4, "b": 1}, {}), ((0, 0),))
        run.step({"a": 4, "b": 0})
        self.assertEqual(run.changes(0, {"a": 0, "b": 1}, {}), ((0, 1), (4, 0), (6, 1)))
        self.assertEqual(run.changes(0, {"a": 7, "b": 0}, {}), ((0, 1),))

    def test_a_beat_that_is_one_too_short(self):
        rows = [{"a": bit} for bit in (1, 0, 1, 1, 0, 0, 1)]
        # A single table that is late is so in each beat: what it gives counts as before, ahead of the first beat as 0.
        self.assertEqual(run_both(chain_of(1), 3, rows)[0], [{"y": 0}] * 7)
        self.assertEqual(run_both(chain_of(1), 4, rows)[0], [{"y": 1 - row["a"]} for row in rows])
        for many in (2, 3, 4):
            placed = chain_of(many)
            timed, plain = run_both(placed, placed.timing().longest - 1, rows)
            right = [row["y"] for row in plain]
            # What comes a beat too late comes with the next one.
            self.assertEqual([row["y"] for row in timed][1:], right[:-1])
            self.assertNotEqual([row["y"] for row in timed][1:], right[1:])

    def test_what_is_kept_too_late(self):
        placed = chain_of(2, keeps=True)
        timing = placed.timing()
        rows = [{"a": bit} for bit in (1, 0, 1, 0, 1, 1, 0, 0)]
        for beat in (timing.longest - 1, timing.longest - 2, timing.longest - 6):
            timed, plain = run_both(placed, beat, rows)
            self.assertEqual([row["y"] for row in timed][2:], [row["y"] for row in plain][1:-1])
        timed, plain = run_both(placed, timing.longest, rows)
        self.assertEqual(timed, plain)

    def test_a_counter_that_is_too_fast(self):
        text = "plan p\nin go 1\nout y 4\nkeep n 4 = 0\nn <- if go then n + 1:4 else n\ny = n\nend\n"
        draw = random.Random(7)
        rows = [{"go": draw.randrange(2)} for _ in range(200)]
        late = 0
        for seed in range(1, 9):
            placed = placed_text(text, seed)
            longest = placed.timing().longest
            timed, plain = run_both(placed, longest, rows)
            self.assertEqual(timed, plain)
            timed, plain = run_both(placed, longest - 1, rows)
            late += timed != plain
            timed, plain = run_both(placed, 5, rows)
            self.assertNotEqual(timed, plain)
        # Not every longest way is one on which a bit changes last, but some are.
        self.assertGreater(late, 0)

    def test_a_name_that_lacks(self):
        placed = chain_of(3, keeps=True)
        run = TimedRun(placed.cells, placed.timing(), 100)
        run.step({"a": 0})
        state, before = dict(run.state), dict(run.before)
        self.assertRaises(GateError, run.step, {})
        self.assertEqual((run.state, run.before), (state, before))

    def test_a_cell_that_is_not_seen(self):
        placed = chain_of(2)
        self.assertRaises(GateError, TimedRun(placed.cells, placed.timing(), 9).changes, 1, {"a": 0}, {})


if __name__ == "__main__":
    unittest.main()
