"""Circuits that are placed and routed, for tests of what comes behind."""

from chipstack.building import build
from chipstack.fabric import fabric_of
from chipstack.placing import first_layout, place_cells
from chipstack.plans import parse_plans
from chipstack.routing import route_cells
from chipstack.simplifying import simplified
from chipstack.tables import cells_of
from chipstack.timing import timing_of
from tests.reckon import drawn_plans

STEPS = ((1, 0), (0, 1), (-1, 0), (0, -1))


class Placed:
    """Cells, a layout, routes and ways, and what is made of them."""

    def __init__(self, cells, layout=None, seed=1):
        self.cells = cells
        self.layout = layout or place_cells(cells, seed, 4)
        self.routes, self.ways = route_cells(cells, self.layout)
        self.all = (self.cells, self.layout, self.routes, self.ways)

    def timing(self):
        """Return the timing."""
        return timing_of(*self.all)

    def fabric(self):
        """Return the fabric."""
        return fabric_of(*self.all)

    def wires_to(self, source, number):
        """Count the wires from a source to a cell, back from the way in at the cell's tile."""
        tile, way, many = self.layout.tiles[number], self.ways[(source, number)], 0
        while way != ("tile",):
            tile = (tile[0] + STEPS[way[1]][0], tile[1] + STEPS[way[1]][1])
            if source[0] == "in" and tile == self.layout.spot(source):
                return many
            way = self.routes.sources[(*tile, (way[1] + 2) % 4, way[2])]
            many += 1
        assert tile == self.layout.spot(source)
        return many


def circuit(text):
    """Return the simplified netlist of the last plan of a text."""
    plans = parse_plans(text)
    return simplified(build(plans, list(plans)[-1]))


def placed_text(text, seed=1):
    """Return the last plan of a text, placed."""
    return Placed(cells_of(circuit(text)), seed=seed)


def drawn_placed(seed):
    """Return (drawing, plan, cells that are placed) of a plan that is drawn."""
    drawing, plans = drawn_plans(seed, 2)
    netlist = simplified(build(plans, "plan1"))
    cells = cells_of(netlist)
    layout = first_layout(cells) if seed & 1 else place_cells(cells, seed, 3)
    return drawing, plans["plan1"], Placed(cells, layout)
