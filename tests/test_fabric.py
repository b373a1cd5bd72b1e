"""Point 11: bytes of a fabric, and cells that are found again in them."""

import random
import unittest

from chipstack.errors import BitError
from chipstack.fabric import (MARK, Fabric, Finder, Tile, cells_in, choice_of, fabric_bytes, fabric_from, fabric_of,
                              sum_bytes)
from chipstack.gates import Run
from chipstack.placing import EAST, NORTH, SOUTH, WEST, Layout
from chipstack.tables import Cell, CellRun, Cells, cells_of
from tests.cellsets import bits_named, drawn_cells, shown_cells
from tests.placed import Placed, circuit, drawn_placed

A = ("in", "a", 0)
COUNTER = "plan p\nin go 1\nout y 3\nkeep n 3 = 5\nn <- if go then n + 1:3 else n\ny = n\nend\n"


def cell(number):
    """Return the row of a cell."""
    return ("cell", number)


def own_sum(rows):
    """Return bytes with their sum behind them."""
    total = 0
    for at in range(len(rows)):
        total += (at + 1) * rows[at]
    return (*rows, total % 65521 // 256, total % 65521 % 256)


def small():
    """Return a fabric of a side of 1 with two tracks, and its bytes ahead of the sum, told by hand."""
    tile = Tile(0xABCD, True, 1, [1, 0, 6, 2], [1, 0, 0, 4, 2, 5, 9, 0])
    pads = [(0, 0, "out", "y0", 31, 0), (2, 0, "in", "a", 0, 0), (3, 0, "in", "zz9", 7, 1)]
    told = [67, 72, 1, 1, 2, 3, 0xCD, 0xAB, 3, 1, 0, 6, 2, 1, 0, 0, 4, 2, 5, 9, 0,
            0, 0, 1, 31, 0, 2, 121, 48, 2, 0, 0, 0, 0, 1, 97, 3, 0, 0, 7, 1, 3, 122, 122, 57]
    return Fabric(1, 2, [tile], pads), told


def plain(side, tracks, tiles, pads=()):
    """Return a fabric of some tiles by place, empty ones between."""
    rows = [tiles.get((x, y), empty(tracks)) for y in range(side) for x in range(side)]
    return Fabric(side, tracks, rows, pads)


def empty(tracks, **wires):
    """Return a tile without a cell."""
    return Tile(0, False, 0, [0] * 4, wire_row(tracks, wires))


def wire_row(tracks, wires):
    """Return the choices of wires by names of walls and tracks: east0, north1 .."""
    walls = ("east", "south", "west", "north")
    return [wires.get(f"{wall}{track}", 0) for wall in walls for track in range(tracks)]


class BytesTest(unittest.TestCase):
    def test_order_of_all_bytes(self):
        fabric, told = small()
        self.assertEqual(MARK, (67, 72, 1))
        self.assertEqual(fabric_bytes(fabric), own_sum(told))
        again = fabric_from(list(own_sum(told)))
        self.assertEqual(again.shown(), fabric.shown())
        self.assertEqual((again.side, again.tracks, again.pads), (1, 2, fabric.pads))
        tile = again.tile(0, 0)
        self.assertEqual(tile.shown(), (0xABCD, True, 1, (1, 0, 6, 2), (1, 0, 0, 4, 2, 5, 9, 0)))
        self.assertIs(tile.holds, True)

    def test_tiles_row_by_row(self):
        tiles = [Tile(at, False, 0, [0] * 4, [0] * 4) for at in range(4)]
        fabric = Fabric(2, 1, tiles, [])
        self.assertEqual([fabric.tile(x, y).table for x, y in ((0, 0), (1, 0), (0, 1), (1, 1))], [0, 1, 2, 3])
        rows = fabric_bytes(fabric)
        self.assertEqual([rows[6 + 11 * at] for at in range(4)], [0, 1, 2, 3])
        self.assertEqual(fabric_from(rows).shown(), fabric.shown())

    def test_pads_are_told_ascending(self):
        fabric, told = small()
        turned = Fabric(1, 2, fabric.tiles, fabric.pads[::-1])
        self.assertEqual(fabric_bytes(turned), own_sum(told))
        self.assertEqual(turned.pads, fabric.pads[::-1])

    def test_sum(self):
        draw = random.Random(1)
        for many in (0, 1, 2, 10, 3000):
            rows = [draw.randrange(256) for _ in range(many)]
            self.assertEqual((*rows, *sum_bytes(rows)), own_sum(rows))
        self.assertEqual((sum_bytes([]), sum_bytes([1]), sum_bytes((0, 255))), ((0, 0), (0, 1), (1, 254)))

    def test_choices(self):
        self.assertEqual(choice_of(("tile",), 5), 1)
        self.assertEqual([choice_of(("wire", wall, track), 2) for wall in range(4) for track in range(2)],
                         list(range(2, 10)))
        self.assertEqual(choice_of(("wire", 3, 23), 24), 97)


class WrongBytesTest(unittest.TestCase):
    def refuse(self, rows, summed=True):
        """Test that bytes are refused."""
        rows = own_sum(rows) if summed else tuple(rows)
        given = tuple(rows)
        self.assertRaises(BitError, fabric_from, rows)
        self.assertEqual(rows, given)

    def changed(self, at, byte):
        """Return the bytes of the small fabric with another one at a place."""
        told = small()[1]
        told[at] = byte
        return told

    def test_every_byte_without_its_sum(self):
        right = fabric_bytes(small()[0])
        for at in range(len(right)):
            for byte in ((right[at] + 1) % 256, right[at] ^ 128):
                self.refuse([*right[:at], byte, *right[at + 1:]], summed=False)

    def test_marks_and_sizes(self):
        for at, byte in ((0, 66), (1, 73), (2, 0), (2, 2), (3, 0), (3, 2), (3, 255), (4, 1), (4, 3), (5, 2), (5, 4)):
            self.refuse(self.changed(at, byte))

    def test_tiles(self):
        for at, byte in ((8, 1), (8, 4), (8, 255), (9, 10), (12, 10), (12, 255), (13, 10), (20, 10), (20, 255)):
            self.refuse(self.changed(at, byte))
        for at, byte in ((6, 0), (7, 255), (8, 0), (8, 2), (9, 9), (12, 0), (13, 9), (20, 9)):
            fabric_from(own_sum(self.changed(at, byte)))

    def test_pads(self):
        # Of the pads: wall, place, class, bit, track, length of the name, the name.
        for at, byte in ((21, 4), (22, 1), (23, 2), (24, 32), (25, 2), (26, 0), (26, 1), (26, 3), (27, 65), (27, 46),
                         (27, 96), (27, 123), (28, 47), (28, 58), (28, 0), (29, 0), (29, 3), (36, 2), (36, 4), (37, 255)):
            self.refuse(self.changed(at, byte))
        for at, byte in ((21, 1), (23, 0), (24, 0), (25, 1), (27, 48), (27, 122), (28, 97)):
            fabric_from(own_sum(self.changed(at, byte)))

    def test_names_of_20_and_of_21(self):
        for many in (1, 20, 21):
            told = [67, 72, 1, 1, 0, 0] + [0] * 7
            told[4:6] = [1, 1]
            told += [0] * 4 + [2, 0, 0, 0, 0, many] + [98] * many
            if many < 21:
                self.assertEqual(fabric_from(own_sum(told)).pads, ((2, 0, "in", "b" * many, 0, 0),))
            else:
                self.refuse(told)

    def test_pads_that_do_not_ascend_or_are_told_twice(self):
        head = [67, 72, 1, 2, 1]
        tiles = [0] * 44
        one, two, three = [0, 0, 1, 0, 0, 1, 97], [0, 1, 1, 1, 0, 1, 97], [2, 0, 0, 0, 0, 1, 97]

        def bytes_of(*pads):
            return [*head, len(pads), *tiles] + [byte for pad in pads for byte in pad]

        self.assertEqual(len(fabric_from(own_sum(bytes_of(one, two, three))).pads), 3)
        self.refuse(bytes_of(two, one, three))
        self.refuse(bytes_of(one, three, two))
        self.refuse(bytes_of(one, one))
        # One place, with another name; and one bit at another place.
        self.refuse(bytes_of(one, [0, 0, 1, 0, 0, 1, 98]))
        self.refuse(bytes_of(one, [0, 1, 1, 0, 0, 1, 97]))
        # What comes in may have the name and bit of what goes out.
        fabric_from(own_sum(bytes_of(one, [0, 1, 0, 0, 0, 1, 97])))

    def test_what_is_left_over_or_lacks(self):
        told = small()[1]
        self.refuse([*told, 0])
        self.refuse([*told, 5])
        for many in range(len(told)):
            self.refuse(told[:many])
        for rows in ((), (0,), (0, 0), tuple([0] * 7), tuple([0] * 8)):
            self.refuse(rows, summed=False)

    def test_what_is_no_byte(self):
        right = list(fabric_bytes(small()[0]))
        for at in (0, 3, 10, 27, len(right) - 1):
            for byte in (-1, 256, right[at] + 256):
                self.refuse([*right[:at], byte, *right[at + 1:]], summed=False)
                self.refuse([*right[:-2][:at], byte, *right[:-2][at + 1:]])

    def test_no_side(self):
        self.refuse([67, 72, 1, 0, 1, 0])
        self.refuse([67, 72, 1, 0, 0, 0])
        self.assertEqual(fabric_from(own_sum([67, 72, 1, 1, 0, 0] + [0] * 7)).shown(),
                         (1, 0, ((0, False, 0, (0,) * 4, ()),), ()))


class FabricOfTest(unittest.TestCase):
    def test_a_cell_alone(self):
        placed = Placed(Cells([Cell([A], 1)], {("y", 0): 0}, [("a", 0)]))
        fabric = placed.fabric()
        self.assertEqual(fabric.shown(), (1, 1, ((0x5555, False, 0, (2 + WEST, 0, 0, 0), (1, 0, 0, 0)),),
                                          ((0, 0, "out", "y", 0, 0), (2, 0, "in", "a", 0, 0))))
        self.assertIs(fabric.tile(0, 0).holds, False)

    def test_tables_stand_again_and_again(self):
        wide = [("in", "a", bit) for bit in range(4)]
        pins = [("a", bit) for bit in range(4)]
        for many, table, told in ((0, 0, 0), (0, 1, 0xFFFF), (1, 2, 0xAAAA), (2, 0b0110, 0x6666), (3, 0x9C, 0x9C9C),
                                  (4, 0x1234, 0x1234)):
            placed = Placed(Cells([Cell(wide[:many], table)], {}, pins))
            tile = placed.fabric().tile(*placed.layout.tiles[0])
            self.assertEqual(tile.table, told)
            self.assertEqual(tile.inputs[many:], (0,) * (4 - many))
            self.assertTrue(all(choice > 0 for choice in tile.inputs[:many]))

    def test_cells_that_keep(self):
        placed = Placed(Cells([Cell([cell(0)], 1, 0), Cell([cell(1)], 1, 1), Cell([], 1)], {}, []))
        fabric = placed.fabric()
        tiles = [fabric.tile(*tile) for tile in placed.layout.tiles]
        self.assertEqual([(tile.holds, tile.first) for tile in tiles], [(True, 0), (True, 1), (False, 0)])
        self.assertEqual([tile.inputs[0] for tile in tiles], [1, 1, 0])

    def test_a_tile_without_a_cell_still_has_wires(self):
        cells = Cells([Cell([A], 1), Cell([cell(0)], 1)], {("y", 0): 1}, [("a", 0)])
        layout = Layout(3, [(0, 0), (2, 0)], {A: (WEST, 0), ("out", "y", 0): (EAST, 0)})
        fabric = Placed(cells, layout).fabric()
        self.assertEqual(fabric.tile(1, 0).shown(), (0, False, 0, (0, 0, 0, 0), (2 + WEST, 0, 0, 0)))
        self.assertEqual(fabric.tile(0, 0).shown(), (0x5555, False, 0, (2 + WEST, 0, 0, 0), (1, 0, 0, 0)))
        self.assertEqual(fabric.tile(2, 2).shown(), (0, False, 0, (0,) * 4, (0,) * 4))

    def test_pads_ascend(self):
        placed = Placed(drawn_cells(1, 30, 8, 7))
        fabric = placed.fabric()
        self.assertEqual(list(fabric.pads), sorted(fabric.pads))
        told = {(word, name, bit): (wall, place) for wall, place, word, name, bit, track in fabric.pads}
        self.assertEqual(told, placed.layout.pads)
        self.assertIs(type(fabric.pads), tuple)

    def test_names_and_bits_that_cannot_be(self):
        for name, bit in (("", 0), ("A", 0), ("a.b", 0), ("a_b", 0), ("a" * 21, 0), ("a", 32), ("a", -1)):
            for cells in (Cells([Cell([("in", name, bit)], 1)], {}, [(name, bit)]), Cells([Cell([], 1)], {(name, bit): 0}, [])):
                placed = Placed(cells)
                self.assertRaises(BitError, fabric_of, *placed.all)
        for name, bit in (("a", 31), ("a" * 20, 0), ("z9", 0)):
            Placed(Cells([Cell([("in", name, bit)], 1)], {}, [(name, bit)])).fabric()

    def test_wires_and_ways_that_lack(self):
        placed = Placed(Cells([Cell([A], 1)], {("y", 0): 0}, [("a", 0)]))
        self.assertRaises(BitError, fabric_of, placed.cells, placed.layout, placed.routes, {})
        placed.routes.wires.clear()
        self.assertRaises(BitError, fabric_of, *placed.all)

    def test_what_is_given_stays(self):
        placed = Placed(drawn_cells(5, 40, 6, 9))

        def shown():
            return (shown_cells(placed.cells), placed.layout.shown(), placed.routes.shown(), dict(placed.routes.sources),
                    dict(placed.ways))

        before = shown()
        fabric = placed.fabric()
        again = fabric.shown()
        cells_in(fabric)
        fabric_bytes(fabric)
        self.assertEqual((shown(), fabric.shown()), (before, again))


class FoundAgainTest(unittest.TestCase):
    def test_drawn_plans(self):
        for seed in range(40):
            drawing, plan, placed = drawn_placed(seed)
            fabric = placed.fabric()
            rows = fabric_bytes(fabric)
            again = fabric_from(rows)
            self.assertEqual((again.shown(), fabric_bytes(again)), (fabric.shown(), rows))
            found = cells_in(again)
            self.assertEqual(sorted(found.pins), sorted(placed.cells.pins))
            self.assertEqual(sorted(found.outs), sorted(placed.cells.outs))
            one, other = CellRun(placed.cells), CellRun(found)
            for _ in range(12):
                ins = drawing.ins_for(plan)
                self.assertEqual(one.given(ins), other.given(ins))
                self.assertEqual(one.step(ins), other.step(ins))

    def test_drawn_cells(self):
        for seed in range(20):
            cells = drawn_cells(seed, 3 + 4 * seed, 5, 40 if seed > 9 else 6)
            placed = Placed(cells, seed=seed)
            fabric = fabric_from(fabric_bytes(placed.fabric()))
            found = cells_in(fabric)
            there = [one for one in cells.cells if one.first is not None or one.table != 0]
            self.assertGreaterEqual(len(found.cells), len(there))
            draw, one, other = random.Random(seed), CellRun(cells), CellRun(found)
            for _ in range(20):
                ins = {"a0": draw.randrange(32)}
                self.assertEqual(one.step(ins), other.step(ins))

    def test_sides_and_tracks_of_more_than_one(self):
        placed = Placed(drawn_cells(3, 100, 30, 30))
        fabric = fabric_from(fabric_bytes(placed.fabric()))
        self.assertGreater(fabric.side, 9)
        self.assertGreater(fabric.tracks, 1)
        self.assertEqual(fabric.tracks, placed.routes.tracks)

    def test_a_circuit(self):
        netlist = circuit(COUNTER)
        placed = Placed(cells_of(netlist))
        found = cells_in(fabric_from(fabric_bytes(placed.fabric())))
        run, other = Run(netlist), CellRun(found)
        for at in range(30):
            ins = {"go": at % 3 & 1}
            self.assertEqual(run.step(ins), other.step(ins))

    def test_no_cells(self):
        found = cells_in(fabric_from(fabric_bytes(Placed(Cells([], {}, [])).fabric())))
        self.assertEqual(shown_cells(found), ([], {}, ()))

    def test_cells_stand_in_the_order_of_tiles(self):
        tiles = {(1, 0): Tile(0xAAAA, False, 0, [2 + WEST, 0, 0, 0], [0] * 4),
                 (0, 1): Tile(0, True, 1, [0] * 4, [0] * 4), (1, 1): Tile(0x5555, True, 0, [1, 0, 0, 0], [0] * 4)}
        tiles[(0, 0)] = empty(1, east0=2 + SOUTH)
        tiles[(0, 1)] = Tile(0, True, 1, [0] * 4, wire_row(1, {"north0": 1}))
        found = cells_in(plain(2, 1, tiles))
        self.assertEqual(shown_cells(found)[0], [((cell(1),), 2, None), ((), 0, 1), ((cell(2),), 1, 0)])

    def test_inputs_that_are_zero_are_left_out(self):
        # Bit b of the table is that of the inputs that are the bits of b: here the sum of all by 2, but for the third.
        table = sum((bin(b & 11).count("1") & 1) << b for b in range(16))
        tiles = {(0, 0): Tile(table, False, 0, [0, 2 + WEST, 2 + EAST, 2 + NORTH], [0] * 4)}
        pads = [(WEST, 0, "in", "a", 0, 0), (NORTH, 0, "in", "b", 3, 0)]
        found = cells_in(plain(2, 1, tiles, pads))
        self.assertEqual(shown_cells(found), ([((A, ("in", "b", 3)), 0b0110, None)], {}, (("a", 0), ("b", 3))))

    def test_bits_that_go_straight_out(self):
        pads = [(EAST, 0, "out", "y", 0, 0), (SOUTH, 0, "out", "z", 0, 0), (WEST, 0, "in", "a", 0, 0)]
        found = cells_in(plain(1, 1, {(0, 0): empty(1, east0=2 + WEST)}, pads))
        self.assertEqual([CellRun(found).given({"a": bit}) for bit in (0, 1)], [{"y": 0, "z": 0}, {"y": 1, "z": 0}])

    def test_tracks_of_pads(self):
        tile = Tile(0x5555, False, 0, [2 + 2 * WEST + 1, 0, 0, 0], wire_row(2, {"east0": 2 + 2 * NORTH + 1, "east1": 1}))
        for track, values in ((0, [0, 0, 1, 1]), (1, [1, 0, 1, 0])):
            pads = [(EAST, 0, "out", "y", 0, track), (WEST, 0, "in", "a", 0, 1), (NORTH, 0, "in", "a", 1, 1)]
            run = CellRun(cells_in(Fabric(1, 2, [tile], pads)))
            self.assertEqual([run.given({"a": number})["y"] for number in range(4)], values)

    def test_an_out_that_is_always_zero(self):
        netlist = circuit("plan p\nin a 1\nout y 2\ny = wide(a, 2)\nend\n")
        found = cells_in(fabric_from(fabric_bytes(Placed(cells_of(netlist)).fabric())))
        self.assertEqual([CellRun(found).given({"a": bit}) for bit in (0, 1)], [{"y": 0}, {"y": 1}])


class FinderTest(unittest.TestCase):
    def test_pads_by_where_wires_come_in(self):
        pads = [(EAST, 2, "in", "a", 0, 1), (EAST, 1, "out", "y", 0, 0), (SOUTH, 0, "in", "a", 1, 0),
                (WEST, 1, "in", "b", 0, 0), (NORTH, 2, "in", "c", 5, 1)]
        finder = Finder(plain(3, 2, {}, pads))
        self.assertEqual(finder.pads, {(2, 2, EAST, 1): A, (0, 2, SOUTH, 0): ("in", "a", 1), (0, 1, WEST, 0): ("in", "b", 0),
                                       (2, 0, NORTH, 1): ("in", "c", 5)})
        self.assertEqual(finder.source(2, 2, 2 + 2 * EAST + 1), A)
        self.assertEqual(finder.source(2, 0, 2 + 2 * NORTH + 1), ("in", "c", 5))
        # On another track, or by another wall, nothing comes in.
        self.assertEqual(finder.source(2, 2, 2 + 2 * EAST), ("zero",))
        self.assertEqual(finder.source(2, 2, 2 + 2 * SOUTH + 1), ("zero",))

    def test_sources(self):
        tiles = {(1, 1): Tile(0, True, 0, [0] * 4, wire_row(1, {"east0": 1, "west0": 2 + NORTH})),
                 (2, 1): empty(1, south0=2 + WEST, east0=1), (0, 0): Tile(7, False, 0, [0] * 4, wire_row(1, {"east0": 1})),
                 (1, 0): empty(1, south0=2 + WEST)}
        finder = Finder(plain(3, 1, tiles))
        self.assertEqual(finder.source(1, 1, 1), ("tile", 4))
        self.assertEqual(finder.source(2, 2, 2 + NORTH), ("tile", 4))
        self.assertEqual(finder.source(0, 1, 2 + EAST), ("tile", 0))
        for x, y, choice in ((0, 0, 0), (2, 2, 1), (2, 1, 1), (2, 2, 2 + EAST), (0, 0, 2 + NORTH), (2, 2, 2 + WEST)):
            self.assertEqual(finder.source(x, y, choice), ("zero",))

    def test_wires_that_go_round(self):
        round_wires = {(0, 0): empty(1, east0=2 + SOUTH), (1, 0): empty(1, south0=2 + WEST),
                       (1, 1): empty(1, west0=2 + NORTH), (0, 1): empty(1, north0=2 + EAST)}
        # Nobody reads them, so nothing is wrong.
        self.assertEqual(shown_cells(cells_in(plain(2, 1, round_wires)))[0], [])
        fabric = plain(2, 1, round_wires)
        self.assertRaises(BitError, Finder(fabric).source, 0, 0, 2 + SOUTH)
        # A pad reads them.
        leading = {**round_wires, (1, 1): empty(1, west0=2 + NORTH, east0=2 + NORTH)}
        cells_in(plain(2, 1, leading))
        self.assertRaises(BitError, cells_in, plain(2, 1, leading, [(EAST, 1, "out", "y", 0, 0)]))
        # A cell reads them; a tile that is no cell does not.
        for table, keeps in ((1, False), (0, True)):
            reading = dict(round_wires)
            reading[(0, 0)] = Tile(table, keeps, 0, [0, 2 + SOUTH, 0, 0], wire_row(1, {"east0": 2 + SOUTH}))
            self.assertRaises(BitError, cells_in, plain(2, 1, reading))
        reading = dict(round_wires)
        reading[(0, 0)] = Tile(0, False, 0, [0, 2 + SOUTH, 0, 0], wire_row(1, {"east0": 2 + SOUTH}))
        cells_in(plain(2, 1, reading))

    def test_tables_that_go_round(self):
        own = plain(1, 1, {(0, 0): Tile(5, False, 0, [1, 0, 0, 0], [0] * 4)})
        self.assertRaises(BitError, cells_in, own)
        both = {(0, 0): Tile(1, False, 0, [2 + EAST, 0, 0, 0], [1, 0, 0, 0]),
                (1, 0): Tile(1, False, 0, [0, 0, 2 + WEST, 0], [0, 0, 1, 0])}
        self.assertRaises(BitError, cells_in, plain(2, 1, both))
        # Over a cell that keeps nothing goes round.
        both[(1, 0)] = Tile(1, True, 0, [0, 0, 2 + WEST, 0], [0, 0, 1, 0])
        self.assertEqual(len(cells_in(plain(2, 1, both)).cells), 2)


class KindsTest(unittest.TestCase):
    def test_fields(self):
        tile = Tile(1, 1, 0, [1, 2, 3, 4], [5])
        self.assertEqual((tile.table, tile.holds, tile.first, tile.inputs, tile.wires), (1, True, 0, (1, 2, 3, 4), (5,)))
        tiles = [tile]
        fabric = Fabric(1, 0, tiles, [(0, 0, "in", "a", 0, 0)])
        self.assertIs(type(fabric.tiles), list)
        fabric.tiles.append(tile)
        self.assertEqual((len(tiles), fabric.tile(0, 0) is tile), (1, True))

    def test_many_pads(self):
        cells = Cells([Cell([], 1)], {key: 0 for key in bits_named("y", 20)}, bits_named("a", 20))
        fabric = Placed(cells).fabric()
        self.assertEqual(fabric.side, 10)
        self.assertEqual(fabric_from(fabric_bytes(fabric)).shown(), fabric.shown())


if __name__ == "__main__":
    unittest.main()
