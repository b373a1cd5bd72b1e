"""Point 9: wires, the ways in, and tracks."""

import unittest

from chipstack.building import build
from chipstack.errors import PlaceError
from chipstack.placing import EAST, NORTH, SOUTH, WEST, Layout, first_layout, nets_of, place_cells
from chipstack.plans import parse_plans
from chipstack.routing import Heap, Router, Routes, far, route_cells
from chipstack.simplifying import simplified
from chipstack.tables import Cell, Cells, cells_of
from tests.cellsets import drawn_cells, plain_cells, shown_cells
from tests.reckon import drawn_plans

STEPS = {EAST: (1, 0), SOUTH: (0, 1), WEST: (-1, 0), NORTH: (0, -1)}
OPPOSITE = {EAST: WEST, WEST: EAST, NORTH: SOUTH, SOUTH: NORTH}
A = ("in", "a", 0)


def beside(tile, wall):
    """Return what stands behind a wall of a tile."""
    return (tile[0] + STEPS[wall][0], tile[1] + STEPS[wall][1])


class RoutedTest(unittest.TestCase):
    def wires_back(self, layout, routes, source, tile, way):
        """Return the wires of a bit from a tile, by its way in, back to where it is made."""
        found = []
        while way[0] == "wire":
            before = beside(tile, way[1])
            if not (0 <= before[0] < layout.side and 0 <= before[1] < layout.side):
                self.assertEqual((layout.spot(source), layout.pads[source][0], way[2]), (before, way[1], 0))
                return found
            wire = (*before, OPPOSITE[way[1]], way[2])
            self.assertEqual(routes.wires[wire], source)
            self.assertNotIn(wire, found)
            found.append(wire)
            tile, way = before, routes.sources[wire]
        self.assertEqual(way, ("tile",))
        self.assertEqual((source[0], layout.spot(source)), ("cell", tile))
        return found

    def hold_to_point_9(self, cells, layout):
        """Route cells and test all that is told of wires; return the routes."""
        shown = (shown_cells(cells), layout.shown())
        routes, ways = route_cells(cells, layout)
        self.assertEqual((shown_cells(cells), layout.shown()), shown)
        used, nets = {}, nets_of(cells)
        for source, rows in nets.items():
            for row in rows:
                if row[0] == "cell":
                    found = self.wires_back(layout, routes, source, layout.spot(row), ways[(source, row[1])])
                else:
                    found = self.wires_out(layout, routes, source, row)
                used.update((wire, True) for wire in found)
        # Nothing is laid that nobody reads, so no wire leads out of the square but to a pad of its bit.
        self.assertEqual(sorted(used), sorted(routes.wires))
        self.assertEqual(sorted(routes.sources), sorted(routes.wires))
        self.assertEqual(sorted(ways), sorted({(source, row[1]) for source in nets for row in nets[source]
                                               if row[0] == "cell"}))
        self.hold_tracks(routes)
        return routes

    def wires_out(self, layout, routes, source, row):
        """Return the wires of a bit to the pad of what goes out."""
        wall = layout.pads[row][0]
        tile = beside(layout.spot(row), OPPOSITE[wall])
        out = [wire for wire in routes.wires if wire[:3] == (*tile, wall)]
        self.assertEqual((len(out), [routes.wires[wire] for wire in out]), (1, [source]))
        return out + self.wires_back(layout, routes, source, tile, routes.sources[out[0]])

    def hold_tracks(self, routes):
        """Test that tracks are used from 0 on."""
        tracks = {}
        for x, y, wall, track in routes.wires:
            tracks.setdefault((x, y, wall), []).append(track)
        for rows in tracks.values():
            self.assertEqual(sorted(rows), list(range(len(rows))))
        most = max([len(rows) for rows in tracks.values()], default=1)
        self.assertEqual((routes.tracks, most <= 24), (most, True))
        self.assertEqual(routes.length(), len(routes.wires))
        self.assertEqual(routes.shown(), (routes.tracks, tuple(sorted(routes.wires.items()))))

    def test_drawn_cells(self):
        for many, ins, outs in ((1, 1, 1), (2, 2, 2), (4, 4, 4), (12, 5, 7), (50, 14, 15), (150, 20, 26)):
            for seed in range(3):
                cells = drawn_cells(seed, many, ins, outs)
                self.hold_to_point_9(cells, first_layout(cells))
                layout = place_cells(cells, seed, 5)
                routes = self.hold_to_point_9(cells, layout)
                self.assertEqual(route_cells(cells, layout)[0].shown(), routes.shown())

    def test_drawn_plans(self):
        for seed in range(12):
            plans = drawn_plans(seed)[1]
            for name in plans:
                cells = cells_of(simplified(build(plans, name)))
                for number in range(2):
                    self.hold_to_point_9(cells, place_cells(cells, number, 4))

    def test_side_40(self):
        cells = drawn_cells(4, 1600, 80, 80)
        self.hold_to_point_9(cells, place_cells(cells, turns=4))

    def test_no_cells(self):
        for ins in (0, 3):
            cells = plain_cells(0, ins, 0)
            routes, ways = route_cells(cells, first_layout(cells))
            self.assertEqual((routes.tracks, routes.wires, routes.sources, ways), (1, {}, {}, {}))

    def test_one_cell(self):
        cells = Cells([Cell([A, ("cell", 0)], 6, 0)], {("y", 0): 0}, [("a", 0)])
        routes, ways = route_cells(cells, first_layout(cells))
        self.assertEqual(ways, {(A, 0): ("wire", WEST, 0), (("cell", 0), 0): ("tile",)})
        self.assertEqual((routes.wires, routes.sources), ({(0, 0, EAST, 0): ("cell", 0)}, {(0, 0, EAST, 0): ("tile",)}))
        self.assertEqual((routes.tracks, routes.length()), (1, 1))

    def test_a_cell_that_keeps_nothing_reads_nothing_and_goes_out(self):
        cells = Cells([Cell([], 1)], {("y", 0): 0, ("y", 1): 0}, [])
        routes = self.hold_to_point_9(cells, first_layout(cells))
        self.assertEqual(sorted(routes.wires), [(0, 0, EAST, 0), (0, 0, SOUTH, 0)])

    def test_a_cell_that_reads_two_of_its_bits_from_one_net(self):
        cells = Cells([Cell([A], 1), Cell([("cell", 0), ("cell", 0), A, A], 6)], {("y", 0): 1}, [("a", 0)])
        for layout in (first_layout(cells), place_cells(cells)):
            self.hold_to_point_9(cells, layout)

    def test_a_way_over_several_tiles(self):
        cells = Cells([Cell([A], 2)], {("y", 0): 0}, [("a", 0)])
        layout = Layout(3, [(1, 1)], {A: (NORTH, 0), ("out", "y", 0): (SOUTH, 2)})
        routes = self.hold_to_point_9(cells, layout)
        self.assertEqual(routes.length(), 2 + 3)

    def test_pads_at_any_wall(self):
        cells = Cells([Cell([A, ("in", "b", 0)], 6), Cell([A, ("cell", 0)], 1)], {("x", 0): 0, ("y", 0): 1, ("z", 0): 0},
                      [("a", 0), ("b", 0)])
        for turn in range(4):
            pads = {A: (turn, 1), ("in", "b", 0): (turn, 0), ("out", "x", 0): ((turn + 1) % 4, 2),
                    ("out", "y", 0): ((turn + 2) % 4, 0), ("out", "z", 0): ((turn + 3) % 4, 1)}
            self.hold_to_point_9(cells, Layout(3, [(2, 0), (0, 2)], pads))

    def test_wrong_layouts(self):
        cells = Cells([Cell([A], 2), Cell([A], 1)], {("y", 0): 0}, [("a", 0)])
        first = first_layout(cells)
        for layout in (Layout(2, [(0, 0), (0, 0)], first.pads), Layout(2, [(0, 0)], first.pads),
                       Layout(2, [(0, 0), (0, 2)], first.pads), Layout(2, first.tiles, {A: (WEST, 0)}),
                       Layout(2, first.tiles, {**first.pads, A: (WEST, 2)})):
            shown = layout.shown()
            with self.assertRaises(PlaceError):
                route_cells(cells, layout)
            self.assertEqual(layout.shown(), shown)

    def corner(self, size):
        """Return cells in a corner, each of which reads four bits that no other one reads, and their layout."""
        many, side = size * size, 40
        rows = [Cell([("cell", many + 4 * number + at) for at in range(4)], 1) for number in range(many)]
        rows.extend(Cell([], 0) for _ in range(side * side - many))
        inner = [(x, y) for x in range(size) for y in range(size)]
        outer = [(x, y) for x in range(side) for y in range(side) if x >= size or y >= size]
        return Cells(rows, {}, []), Layout(side, inner + outer, {})

    def test_many_tracks(self):
        cells, layout = self.corner(8)
        self.assertGreaterEqual(self.hold_to_point_9(cells, layout).tracks, 16)
        # Wires that find a wall full go another way.
        cells, layout = self.corner(11)
        self.assertEqual(self.hold_to_point_9(cells, layout).tracks, 24)

    def test_more_tracks_than_may_be(self):
        # Into a corner of 13 by 13 tiles lead 26 walls with 24 tracks each: less than its 4 * 13 * 13 inputs.
        cells, layout = self.corner(13)
        shown = (shown_cells(cells), layout.shown())
        with self.assertRaises(PlaceError):
            route_cells(cells, layout)
        self.assertEqual((shown_cells(cells), layout.shown()), shown)

    def test_the_most_first(self):
        # The net that more read is laid first, so its wire has the lower track.
        rows = [Cell([A], 1), Cell([("cell", 0)], 1), Cell([("in", "b", 0), A], 1)]
        cells = Cells(rows, {}, [("b", 0), ("a", 0)])
        layout = Layout(3, [(1, 0), (2, 2), (2, 0)], {("in", "b", 0): (NORTH, 0), A: (WEST, 0)})
        routes = self.hold_to_point_9(cells, layout)
        self.assertEqual((routes.wires[(0, 0, EAST, 0)], routes.wires[(0, 0, EAST, 1)]), (A, ("in", "b", 0)))
        even = Cells([Cell([A], 1), Cell([("in", "b", 0)], 1)], {}, [("b", 0), ("a", 0)])
        layout = Layout(2, [(1, 0), (1, 1)], {("in", "b", 0): (NORTH, 0), A: (WEST, 0)})
        self.assertEqual(self.hold_to_point_9(even, layout).wires[(0, 0, EAST, 0)], A)


class RouterTest(unittest.TestCase):
    def test_routes(self):
        routes = Routes()
        self.assertEqual((routes.tracks, routes.wires, routes.sources, routes.length()), (1, {}, {}, 0))
        self.assertEqual(routes.shown(), (1, ()))

    def test_heap(self):
        heap = Heap()
        self.assertEqual(heap.rows, [])
        for row in [(5, "a"), (3, "b"), (8, "c"), (1, "d"), (3, "a"), (9, "z"), (0, "y"), (4, "e")]:
            heap.put(row)
            for place in range(1, len(heap.rows)):
                self.assertLessEqual(heap.rows[(place - 1) // 2], heap.rows[place])
        self.assertEqual([heap.take() for _ in range(8)],
                         [(0, "y"), (1, "d"), (3, "a"), (3, "b"), (4, "e"), (5, "a"), (8, "c"), (9, "z")])

    def test_far(self):
        self.assertEqual([far((1, 2), other) for other in ((1, 2), (4, 2), (0, 0), (-1, 5))], [0, 3, 3, 5])

    def test_is_inside(self):
        router = Router(Layout(3, [], {}))
        inside = [(x, y) for x in range(-1, 4) for y in range(-1, 4) if router.is_inside((x, y))]
        self.assertEqual(inside, [(x, y) for x in range(3) for y in range(3)])

    def test_add_wire(self):
        layout = Layout(3, [(1, 1)], {})
        router = Router(layout)
        self.assertEqual((router.layout, router.reached), (layout, {}))
        for wall in (EAST, SOUTH, WEST, NORTH):
            router.reached = {(1, 1): ("tile",)}
            self.assertIsNone(router.add_wire(("cell", 0), (1, 1), wall))
            self.assertEqual(router.reached[beside((1, 1), wall)], ("wire", OPPOSITE[wall], 0))
        router.add_wire(("cell", 0), (1, 0), WEST)
        router.add_wire(("cell", 0), (1, 0), WEST)
        self.assertEqual(router.reached[(0, 0)], ("wire", EAST, 1))
        self.assertEqual((router.routes.wires[(1, 0, WEST, 1)], router.routes.sources[(1, 0, WEST, 1)]),
                         (("cell", 0), ("wire", SOUTH, 0)))
        self.assertEqual((router.routes.tracks, router.routes.length()), (2, 6))

    def test_too_many_wires(self):
        router = Router(Layout(2, [(0, 0)], {}))
        router.reached = {(0, 0): ("tile",)}
        for number in range(24):
            router.add_wire(("cell", number), (0, 0), EAST)
        shown, reached = router.routes.shown(), dict(router.reached)
        self.assertEqual(router.routes.tracks, 24)
        for _ in range(2):
            with self.assertRaises(PlaceError):
                router.add_wire(("cell", 24), (0, 0), EAST)
            self.assertEqual((router.routes.shown(), router.reached), (shown, reached))
        router.add_wire(("cell", 24), (0, 0), SOUTH)


if __name__ == "__main__":
    unittest.main()
