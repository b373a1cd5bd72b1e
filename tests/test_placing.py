"""Point 8: layouts, nets, their lengths, and placing."""

import unittest

from chipstack.errors import PlaceError
from chipstack.placing import (EAST, NORTH, SOUTH, WEST, Layout, Placer, check_layout, first_layout, net_length, nets_of,
                               place_cells, total_length)
from chipstack.tables import Cell, Cells
from tests.cellsets import drawn_cells, plain_cells, shown_cells

A0, A1, B0 = ("in", "a", 0), ("in", "a", 1), ("in", "b", 0)


def some_cells():
    """Return three cells of which one reads a bit twice, and one itself."""
    rows = [Cell([A0, B0], 6), Cell([("cell", 0), ("cell", 0), A0], 8), Cell([("cell", 2), ("cell", 1)], 6, 0)]
    return Cells(rows, {("y", 1): 0, ("y", 0): 2, ("x", 0): 2}, [("b", 0), ("a", 1), ("a", 0)])


class LayoutTest(unittest.TestCase):
    def test_walls(self):
        self.assertEqual((EAST, SOUTH, WEST, NORTH), (0, 1, 2, 3))

    def test_fields_and_spots(self):
        pads = {A0: (WEST, 2), B0: (NORTH, 1), ("out", "y", 0): (EAST, 0), ("out", "y", 1): (SOUTH, 2)}
        layout = Layout(3, [(0, 1), (2, 2)], pads)
        self.assertEqual((layout.side, layout.tiles, layout.pads), (3, [(0, 1), (2, 2)], pads))
        rows = [("cell", 0), ("cell", 1), A0, B0, ("out", "y", 0), ("out", "y", 1)]
        self.assertEqual([layout.spot(row) for row in rows], [(0, 1), (2, 2), (-1, 2), (1, -1), (3, 0), (2, 3)])
        self.assertEqual(layout.shown(), (3, ((0, 1), (2, 2)), (
            (A0, (WEST, 2)), (B0, (NORTH, 1)), (("out", "y", 0), (EAST, 0)), (("out", "y", 1), (SOUTH, 2)))))

    def test_nets(self):
        self.assertEqual(nets_of(some_cells()), {
            A0: [("cell", 0), ("cell", 1)], B0: [("cell", 0)],
            ("cell", 0): [("cell", 1), ("cell", 1), ("out", "y", 1)], ("cell", 1): [("cell", 2)],
            ("cell", 2): [("cell", 2), ("out", "x", 0), ("out", "y", 0)]})

    def test_lengths(self):
        layout = Layout(4, [(0, 0), (3, 1), (1, 2)], {A0: (WEST, 3), ("out", "y", 0): (EAST, 2)})
        self.assertEqual(net_length(layout, ("cell", 0), [("cell", 1)]), 4)
        self.assertEqual(net_length(layout, ("cell", 0), [("cell", 0)]), 0)
        self.assertEqual(net_length(layout, ("cell", 0), [("cell", 2), ("cell", 1), ("cell", 2)]), 5)
        self.assertEqual(net_length(layout, ("cell", 1), [("cell", 2)]), 3)
        self.assertEqual(net_length(layout, A0, [("cell", 0)]), 4)
        self.assertEqual(net_length(layout, ("cell", 2), [("out", "y", 0), ("cell", 0)]), 6)
        nets = {A0: [("cell", 0)], ("cell", 0): [("cell", 1)]}
        self.assertEqual(total_length(layout, nets), 8)
        self.assertEqual(total_length(layout, {}), 0)


class FirstLayoutTest(unittest.TestCase):
    def side(self, many, ins, outs):
        """Return the side of the first layout of so many cells and pads."""
        cells = plain_cells(many, ins, outs)
        layout = first_layout(cells)
        check_layout(cells, layout)
        return layout.side

    def test_cells_row_by_row_and_pads(self):
        layout = first_layout(some_cells())
        self.assertEqual(layout.side, 2)
        self.assertEqual(layout.tiles, [(0, 0), (1, 0), (0, 1)])
        # What comes in keeps its order, what goes out ascends.
        self.assertEqual(layout.pads, {
            B0: (WEST, 0), A1: (WEST, 1), A0: (NORTH, 0), ("out", "x", 0): (EAST, 0), ("out", "y", 0): (EAST, 1),
            ("out", "y", 1): (SOUTH, 0)})

    def test_the_least_side(self):
        told = {(1, 0, 0): 1, (2, 0, 0): 2, (4, 0, 0): 2, (5, 0, 0): 3, (1, 2, 2): 1, (1, 3, 0): 2, (1, 0, 3): 2,
                (9, 6, 6): 3, (9, 7, 6): 4, (9, 6, 7): 4, (10, 6, 6): 4}
        for sizes, side in told.items():
            self.assertEqual(self.side(*sizes), side, sizes)

    def test_no_cells(self):
        cells = plain_cells(0, 0, 0)
        self.assertEqual(first_layout(cells).shown(), (1, (), ()))
        self.assertEqual(place_cells(cells).shown(), (1, (), ()))
        self.assertEqual(self.side(0, 3, 0), 2)

    def test_as_many_as_fit(self):
        self.assertEqual(self.side(1600, 80, 80), 40)
        self.assertEqual(self.side(1522, 0, 0), 40)
        self.assertEqual(self.side(1521, 78, 78), 39)

    def test_one_more(self):
        for sizes in ((1601, 0, 0), (1, 81, 0), (1, 0, 81)):
            cells = plain_cells(*sizes)
            shown = shown_cells(cells)
            for call in (first_layout, place_cells, lambda told: Placer(told, 1)):
                with self.assertRaises(PlaceError):
                    call(cells)
            self.assertEqual(shown_cells(cells), shown)


class PlacingTest(unittest.TestCase):
    def test_roll(self):
        placer = Placer(some_cells(), 5)
        drawn = [placer.roll(6) for _ in range(300)]
        self.assertEqual(sorted(set(drawn)), [0, 1, 2, 3, 4, 5])
        self.assertEqual([placer.roll(1) for _ in range(5)], [0] * 5)
        again = Placer(some_cells(), 5)
        self.assertEqual([again.roll(6) for _ in range(300)], drawn)
        other = Placer(some_cells(), 6)
        self.assertNotEqual([other.roll(6) for _ in range(300)], drawn)

    def test_put(self):
        placer = Placer(some_cells(), 1)
        placer.put(0, (1, 1), None, (0, 0))
        self.assertEqual(placer.layout.tiles, [(1, 1), (1, 0), (0, 1)])
        placer.put(0, (1, 0), 1, (1, 1))
        self.assertEqual(placer.layout.tiles, [(1, 0), (1, 1), (0, 1)])

    def test_changes_are_what_they_are_told_to_be(self):
        for seed in range(4):
            cells = drawn_cells(seed, 40, 9, 9)
            nets, placer = nets_of(cells), Placer(cells, seed)
            length, moved = total_length(placer.layout, nets), 0
            for turn in range(400):
                tiles, worse = list(placer.layout.tiles), (0, 2, -1, 1000)[turn % 4]
                change = placer.try_swap(worse)
                self.assertTrue(change <= worse or change == 0)
                self.assertEqual(total_length(placer.layout, nets), length + change)
                length += change
                moved += tiles != placer.layout.tiles
                check_layout(cells, placer.layout)
            self.assertGreater(moved, 50)

    def test_changes_of_no_length(self):
        cells = plain_cells(5, 0, 0)
        placer = Placer(cells, 1)
        self.assertEqual([placer.try_swap(0) for _ in range(50)], [0] * 50)
        self.assertNotEqual(placer.layout.tiles, first_layout(cells).tiles)
        self.assertEqual([Placer(plain_cells(many, 0, 0), 1).try_swap(3) for many in (0, 1)], [0, 0])

    def test_nothing_that_is_worse(self):
        cells = drawn_cells(7, 30, 5, 5)
        placer, nets = Placer(cells, 3), nets_of(cells)
        for _ in range(300):
            before = total_length(placer.layout, nets)
            self.assertLessEqual(placer.try_swap(0), 0)
            self.assertLessEqual(total_length(placer.layout, nets), before)

    def test_placed_cells(self):
        for many, ins, outs in ((1, 1, 1), (2, 2, 1), (16, 8, 8), (30, 3, 12), (100, 20, 20)):
            cells = drawn_cells(many, many, ins, outs)
            shown, nets, first = shown_cells(cells), nets_of(cells), first_layout(cells)
            for seed in range(4):
                layout = place_cells(cells, seed)
                check_layout(cells, layout)
                self.assertEqual(shown_cells(cells), shown)
                self.assertEqual((layout.side, layout.pads), (first.side, first.pads))
                self.assertLessEqual(total_length(layout, nets), total_length(first, nets))
                self.assertEqual(place_cells(cells, seed).shown(), layout.shown())
        self.assertLess(total_length(layout, nets) * 10, total_length(first, nets) * 9)

    def test_seeds_and_turns(self):
        cells = drawn_cells(2, 60, 9, 9)
        self.assertEqual(place_cells(cells).shown(), place_cells(cells, seed=1, turns=30).shown())
        self.assertEqual(place_cells(cells, 1, 0).shown(), first_layout(cells).shown())
        self.assertNotEqual(place_cells(cells, 1).shown(), place_cells(cells, 2).shown())
        self.assertNotEqual(place_cells(cells, 1, 2).shown(), place_cells(cells, 1, 9).shown())
        for turns in range(1, 4):
            check_layout(cells, place_cells(cells, 0, turns))

    def test_side_40(self):
        cells = drawn_cells(1, 1600, 80, 80)
        layout = place_cells(cells, turns=2)
        self.assertEqual(layout.side, 40)
        check_layout(cells, layout)


class CheckTest(unittest.TestCase):
    def fails(self, tiles=None, pads=None, side=2):
        """Test that a layout of three cells is wrong."""
        cells, first = some_cells(), first_layout(some_cells())
        layout = Layout(side, first.tiles if tiles is None else tiles, first.pads if pads is None else pads)
        shown = layout.shown()
        with self.assertRaises(PlaceError):
            check_layout(cells, layout)
        self.assertEqual((layout.shown(), shown_cells(cells)), (shown, shown_cells(some_cells())))

    def pads(self, **changes):
        """Return the pads of the first layout with changes: names and bits together are keys; None takes a pad away."""
        found = first_layout(some_cells()).pads
        for key, pad in changes.items():
            row = ("in" if key[0] in "ab" else "out", key[0], int(key[1]))
            if pad is None:
                del found[row]
            else:
                found[row] = pad
        return found

    def test_sound_ones(self):
        cells = some_cells()
        self.assertIsNone(check_layout(cells, first_layout(cells)))
        check_layout(cells, Layout(2, [(1, 1), (0, 1), (1, 0)], self.pads(a0=(EAST, 0), x0=(NORTH, 0))))
        check_layout(cells, Layout(5, [(4, 4), (0, 0), (2, 3)], self.pads(a0=(EAST, 4), x0=(NORTH, 3))))

    def test_tiles(self):
        for tiles in ([(0, 0), (0, 0), (0, 1)], [(0, 0), (1, 0)], [(0, 0), (1, 0), (0, 1), (1, 1)], [],
                      [(0, 0), (1, 0), (0, 1), (0, 1)], [(0, 0), (1, 0), (0, 2)], [(0, 0), (1, 0), (2, 0)],
                      [(-1, 0), (1, 0), (0, 1)], [(0, -1), (1, 0), (0, 1)]):
            self.fails(tiles=tiles)

    def test_pads(self):
        for pads in ({}, self.pads(a0=None), self.pads(x0=None), self.pads(a2=(NORTH, 1)), self.pads(z0=(SOUTH, 1)),
                     self.pads(a0=None, a2=(NORTH, 0)), self.pads(a0=(WEST, 0)), self.pads(x0=(WEST, 0)),
                     self.pads(a0=(4, 0)), self.pads(a0=(-1, 0)), self.pads(a0=(NORTH, 2)), self.pads(a0=(NORTH, -1))):
            self.fails(pads=pads)


if __name__ == "__main__":
    unittest.main()
