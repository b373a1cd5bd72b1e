"""Placing: cells in a square of tiles, pads around it, so that what belongs together stands together."""

from chipstack.errors import PlaceError
from chipstack.mixing import below, mixed_on, seeded

EAST = 0
SOUTH = 1
WEST = 2
NORTH = 3
# How x and y change by a step through each wall.
STEPS = ((1, 0), (0, 1), (-1, 0), (0, -1))
MOST_SIDE = 40
MOST_WORSE = 3


class Layout:
    """The side of the square, the tile (x, y) of each cell, and the pad (side of the square, place) of each bit.

    Pads of what comes in are by ("in", name, bit), of what goes out by ("out", name, bit).
    """

    def __init__(self, side, tiles, pads):
        self.side = side
        self.tiles = list(tiles)
        self.pads = {row: pads[row] for row in pads}

    def spot(self, row):
        """Return (x, y) of a cell ("cell", number) or a pad; pads stand just outside."""
        if row[0] == "cell":
            return self.tiles[row[1]]
        wall, place = self.pads[row]
        if wall in (EAST, WEST):
            return (self.side if wall == EAST else -1, place)
        return (place, self.side if wall == SOUTH else -1)

    def shown(self):
        """Return (side, tiles by cell, pads ascending)."""
        return (self.side, tuple(self.tiles), tuple((row, self.pads[row]) for row in sorted(self.pads)))


def nets_of(cells):
    """Return a table of sources to the rows that read them: ("cell", number) and ("out", name, bit), in order."""
    found = {}
    for number, cell in enumerate(cells.cells):
        for source in cell.inputs:
            found.setdefault(source, []).append(("cell", number))
    for name, bit in sorted(cells.outs):
        found.setdefault(("cell", cells.outs[(name, bit)]), []).append(("out", name, bit))
    return found


def net_length(layout, source, sinks):
    """Return the length of a net: the width and the height of the least square that holds all its spots."""
    spots = [layout.spot(source)]
    spots.extend([layout.spot(row) for row in sinks])
    across = [spot[0] for spot in spots]
    down = [spot[1] for spot in spots]
    return max(across) - min(across) + max(down) - min(down)


def total_length(layout, nets):
    """Return the length of all nets."""
    return sum(net_length(layout, source, nets[source]) for source in nets)


def first_layout(cells):
    """Return a layout of cells row by row, in the least square in which cells and pads fit; raise PlaceError for none.

    What comes in has pads on the west and then the north wall, what goes out on the east and then the south one.
    """
    many = len(cells.cells)
    pads = max(len(cells.pins), len(cells.outs))
    side = 1
    while side * side < many or 2 * side < pads:
        side += 1
    if side > MOST_SIDE:
        raise PlaceError("there are more cells or pads than fit")
    tiles = [(number % side, number // side) for number in range(many)]
    found = {}
    for at, (name, bit) in enumerate(cells.pins):
        found[("in", name, bit)] = pad_at(at, side, WEST, NORTH)
    for at, (name, bit) in enumerate(sorted(cells.outs)):
        found[("out", name, bit)] = pad_at(at, side, EAST, SOUTH)
    return Layout(side, tiles, found)


def pad_at(at, side, first, second):
    """Return the pad of a number: the places of one wall are followed by those of another one."""
    return (first, at) if at < side else (second, at - side)


class Placer:
    """Nets, a layout, which nets each cell belongs to, the cell on each tile, and a number that is mixed on."""

    def __init__(self, cells, seed):
        self.layout = first_layout(cells)
        self.nets = nets_of(cells)
        self.belongs = [[] for cell in cells.cells]
        for source in self.nets:
            for row in [source, *self.nets[source]]:
                if row[0] == "cell" and source not in self.belongs[row[1]]:
                    self.belongs[row[1]].append(source)
        self.standing = {tile: number for number, tile in enumerate(self.layout.tiles)}
        self.mixed = seeded(seed)

    def roll(self, many):
        """Return a number from 0 to below another one."""
        self.mixed = mixed_on(self.mixed)
        return below(self.mixed, many)

    def try_swap(self, worse):
        """Let a cell and a tile's cell change places, if that makes nets at most so much longer; return the change."""
        if self.layout.tiles == []:
            return 0
        side = self.layout.side
        number = self.roll(len(self.layout.tiles))
        tile = (self.roll(side), self.roll(side))
        there = self.layout.tiles[number]
        other = self.standing.get(tile, None)
        if tile == there:
            return 0
        touched = self.touched_by(number, other)
        before = self.length_of(touched)
        self.put(number, tile, other, there)
        change = self.length_of(touched) - before
        if change <= worse:
            return change
        self.put(number, there, other, tile)
        return 0

    def touched_by(self, number, other):
        """Return the sources of the nets that one of two cells belongs to; the other one may be None."""
        found = list(self.belongs[number])
        if other is not None:
            found.extend([source for source in self.belongs[other] if source not in found])
        return found

    def length_of(self, sources):
        """Return the length of the nets of some sources."""
        return sum(net_length(self.layout, source, self.nets[source]) for source in sources)

    def put(self, number, tile, other, there):
        """Put a cell on a tile, and another one, if there is one, where the first one was."""
        self.layout.tiles[number] = tile
        self.standing[tile] = number
        if other is None:
            self.standing.pop(there, None)
        else:
            self.layout.tiles[other] = there
            self.standing[there] = other


def place_cells(cells, seed=1, turns=30):
    """Return a layout with short nets: so many turns for each cell are tried, and less and less is let get worse.

    Raise PlaceError if they do not fit.
    """
    placer = Placer(cells, seed)
    first = first_layout(cells)
    for turn in range(turns):
        # Only the first half of the turns lets anything get worse at all.
        worse = max(0, MOST_WORSE * (turns - 1 - 2 * turn) // turns)
        for _ in range(len(cells.cells)):
            placer.try_swap(worse)
    if total_length(placer.layout, placer.nets) > total_length(first, placer.nets):
        return first
    return placer.layout


def check_layout(cells, layout):
    """Raise PlaceError for cells that stand on one tile, or outside, and pads that are told twice, or lack."""
    side = layout.side
    inside = all(0 <= x < side and 0 <= y < side for x, y in layout.tiles)
    different = len({tile: True for tile in layout.tiles})
    if not inside or different != len(cells.cells) or len(layout.tiles) != different:
        raise PlaceError("cells do not stand on a tile each")
    wanted = [("in", name, bit) for name, bit in cells.pins]
    wanted.extend([("out", name, bit) for name, bit in cells.outs])
    places = list(layout.pads.values())
    if sorted(layout.pads) != sorted(wanted) or len({pad: True for pad in places}) != len(wanted):
        raise PlaceError("pads lack, are told twice, or stand at one place")
    if any(not 0 <= wall <= NORTH or not 0 <= place < side for wall, place in places):
        raise PlaceError("a pad stands at no wall, or at no place of it")
