"""Fabric: a square of tiles that become any circuit by bits, and those bits as bytes.

Each tile has a table of sixteen bits, whether it keeps, what it keeps first, what each of its four inputs reads, and
what each wire that leaves it carries. Choices are 0 for nothing (zero), 1 for the tile's own bit, and 2 + wall *
tracks + track for the wire that comes in there.
"""

from chipstack.errors import BitError
from chipstack.placing import EAST, NORTH, SOUTH
from chipstack.plantext import DIGITS, LETTERS, MOST_LETTERS
from chipstack.routing import beside, facing
from chipstack.tables import MOST_INPUTS, Cell, Cells

MARK = (67, 72, 1)
WALLS = 4
MOST_BITS_OF_NAME = 32
SUM_BY = 65521
LEAST_BYTES = 8
# The table of a cell that hands on its only input.
HANDS_ON = 2


class Tile:
    """A table, whether it keeps, its first bit, four choices of what inputs read, and one for each wire that leaves."""

    def __init__(self, table, keeps, first, inputs, wires):
        self.table = table
        self.holds = bool(keeps)
        self.first = first
        self.inputs = tuple(inputs)
        self.wires = tuple(wires)

    def shown(self):
        """Return (table, whether it keeps, its first bit, choices of inputs, choices of wires)."""
        return (self.table, self.holds, self.first, self.inputs, self.wires)

    def is_cell(self):
        """Return True for a tile that keeps, or whose table is not all zero."""
        return self.holds or self.table != 0


class Fabric:
    """A side, how many tracks, the tiles row by row, and the names of pads.

    Pads are (wall, place, "in" or "out", name, bit, track): what comes in comes on a track, what goes out is read
    from one.
    """

    def __init__(self, side, tracks, tiles, pads):
        self.side = side
        self.tracks = tracks
        self.tiles = list(tiles)
        self.pads = tuple(pads)

    def tile(self, x, y):
        """Return a tile."""
        return self.tiles[y * self.side + x]

    def shown(self):
        """Return (side, tracks, tiles, pads)."""
        return (self.side, self.tracks, tuple(tile.shown() for tile in self.tiles), self.pads)


def choice_of(way, tracks):
    """Return the choice of a way in: ("tile",) or ("wire", wall, track)."""
    if way[0] == "tile":
        return 1
    return 2 + way[1] * tracks + way[2]


def fabric_of(cells, layout, routes, ways):
    """Return the fabric of cells that are laid out."""
    standing = {tile: number for number, tile in enumerate(layout.tiles)}
    tiles = []
    for y in range(layout.side):
        for x in range(layout.side):
            wires = wire_choices(x, y, routes)
            if (x, y) in standing:
                tiles.append(cell_tile(cells, standing[(x, y)], wires, routes.tracks, ways))
            else:
                tiles.append(Tile(0, False, 0, [0] * MOST_INPUTS, wires))
    pads = [pad_of(row, cells, layout, routes) for row in sorted(layout.pads)]
    return Fabric(layout.side, routes.tracks, tiles, sorted(pads))


def wire_choices(x, y, routes):
    """Return the choices of all wires that leave a tile: 0 for those that carry nothing."""
    found = []
    for wall in range(WALLS):
        for track in range(routes.tracks):
            way = routes.sources.get((x, y, wall, track), None)
            found.append(0 if way is None else choice_of(way, routes.tracks))
    return found


def cell_tile(cells, number, wires, tracks, ways):
    """Return the tile on which a cell stands; raise BitError if no way leads to some input."""
    cell = cells.cells[number]
    choices = [0] * MOST_INPUTS
    for at, source in enumerate(cell.inputs):
        if (source, number) not in ways:
            raise BitError(f"no way of {source} leads to cell {number}")
        choices[at] = choice_of(ways[(source, number)], tracks)
    keeps = cell.first is not None
    return Tile(full_table(cell), keeps, cell.first if keeps else 0, choices, wires)


def full_table(cell):
    """Return a cell's table for four inputs: what it does not read changes nothing."""
    size = 1 << len(cell.inputs)
    return sum(cell.table << at for at in range(0, 1 << MOST_INPUTS, size))


def pad_of(row, cells, layout, routes):
    """Return the pad of a bit; raise BitError for a name that cannot be, or a bit that no wire brings."""
    word, name, bit = row
    wall, place = layout.pads[row]
    check_name(name, bit)
    if word == "in":
        return (wall, place, word, name, bit, 0)
    x, y = beside(layout.spot(row), facing(wall))
    source = ("cell", cells.outs[(name, bit)])
    for track in range(routes.tracks):
        if routes.wires.get((x, y, wall, track), None) == source:
            return (wall, place, word, name, bit, track)
    raise BitError(f"no wire brings bit {bit} of {name} to its pad")


def check_name(name, bit):
    """Raise BitError for the name of a pad that cannot be, or a bit that no number has."""
    if not 0 < len(name) <= MOST_LETTERS or any(sign not in LETTERS + DIGITS for sign in name):
        raise BitError("a pad has a name that cannot be")
    if not 0 <= bit < MOST_BITS_OF_NAME:
        raise BitError(f"{name} has no bit {bit}")


def fabric_bytes(fabric):
    """Return the bytes of a fabric, a row of numbers; two bytes of a sum stand at the end."""
    found = [*MARK, fabric.side, fabric.tracks, len(fabric.pads)]
    for tile in fabric.tiles:
        found.extend([tile.table & 255, tile.table >> 8, 2 * int(tile.holds) + tile.first])
        found.extend(tile.inputs)
        found.extend(tile.wires)
    for wall, place, word, name, bit, track in sorted(fabric.pads):
        found.extend([wall, place, 1 if word == "out" else 0, bit, track, len(name)])
        found.extend([ord(sign) for sign in name])
    return (*found, *sum_bytes(found))


def sum_bytes(rows):
    """Return two bytes: the sum of all bytes, each times its place from 1 on, by 65521."""
    total = sum(byte * place for place, byte in enumerate(rows, start=1)) % SUM_BY
    return (total >> 8, total & 255)


class FabricReader:
    """Bytes ahead of their sum, and a place in them."""

    def __init__(self, rows):
        self.rows = tuple(rows)
        self.at = 0

    def take(self, many):
        """Go behind so many bytes and return them; raise BitError if there are less."""
        if self.at + many > len(self.rows):
            raise BitError("there are less bytes than there should be")
        self.at += many
        return self.rows[self.at - many:self.at]

    def read_tile(self, tracks):
        """Read a tile; raise BitError for one that cannot be."""
        low, high, kept = self.take(3)
        choices = self.take(MOST_INPUTS + WALLS * tracks)
        if kept not in (0, 2, 3):
            raise BitError("a tile keeps as none can")
        if any(choice >= 2 + WALLS * tracks for choice in choices):
            raise BitError("a choice leads to a wire that is not there")
        return Tile(low + (high << 8), kept > 1, kept & 1, choices[:MOST_INPUTS], choices[MOST_INPUTS:])

    def read_pad(self, side, tracks):
        """Read a pad; raise BitError for one that cannot be."""
        wall, place, out, bit, track, many = self.take(6)
        if wall > NORTH or place >= side or out > 1 or track >= tracks:
            raise BitError("a pad is at no wall, at no place of it, or on no track")
        signs = {ord(sign): sign for sign in LETTERS + DIGITS}
        # A byte that is no such sign gives one that no name has.
        name = "".join([signs.get(byte, "?") for byte in self.take(many)])
        check_name(name, bit)
        return (wall, place, "out" if out else "in", name, bit, track)


def fabric_from(rows):
    """Return the fabric of bytes; raise BitError for others: another sum, choices and names that cannot be."""
    if (len(rows) < LEAST_BYTES or any(not 0 <= byte < 256 for byte in rows)
            or tuple(rows[-2:]) != sum_bytes(rows[:-2])):
        raise BitError("these are no bytes of a fabric, or their sum is another one")
    reader = FabricReader(rows[:-2])
    if reader.take(3) != MARK:
        raise BitError("bytes of a fabric begin otherwise")
    side, tracks, many = reader.take(3)
    tiles = [reader.read_tile(tracks) for _ in range(side * side)]
    pads = [reader.read_pad(side, tracks) for _ in range(many)]
    if reader.at != len(reader.rows) or side == 0 or len({pad[:2]: True for pad in pads}) != many:
        raise BitError("bytes are left over, there is no tile, or two pads stand at one place")
    if len({pad[2:5]: True for pad in pads}) != many or pads != sorted(pads):
        raise BitError("a pad is told twice, or pads do not ascend")
    return Fabric(side, tracks, tiles, pads)


class Finder:
    """A fabric, and the pads that come in, by where their wires come in."""

    def __init__(self, fabric):
        self.fabric = fabric
        self.pads = {}
        for pad in fabric.pads:
            if pad[2] == "in":
                x, y = tile_at(pad[0], pad[1], fabric.side)
                self.pads[(x, y, pad[0], pad[5])] = pad[2:5]

    def source(self, x, y, choice):
        """Return where a choice of a tile leads back to: ("tile", place), ("in", name, bit) or ("zero",)."""
        seen = {}
        while choice > 1:
            wall = (choice - 2) // self.fabric.tracks
            track = (choice - 2) % self.fabric.tracks
            if (x, y, wall, track) in seen:
                raise BitError("wires go round")
            seen[(x, y, wall, track)] = True
            if (x, y, wall, track) in self.pads:
                return self.pads[(x, y, wall, track)]
            x, y = beside((x, y), wall)
            if not (0 <= x < self.fabric.side and 0 <= y < self.fabric.side):
                return ("zero",)
            choice = self.fabric.tile(x, y).wires[facing(wall) * self.fabric.tracks + track]
        if choice == 0 or not self.fabric.tile(x, y).is_cell():
            return ("zero",)
        return ("tile", y * self.fabric.side + x)

    def read_by(self, place):
        """Return the sources of the four inputs of a tile."""
        x, y = place % self.fabric.side, place // self.fabric.side
        return [self.source(x, y, choice) for choice in self.fabric.tiles[place].inputs]

    def sent_by(self, pad):
        """Return the source of what goes out by a pad."""
        x, y = tile_at(pad[0], pad[1], self.fabric.side)
        return self.source(x, y, self.fabric.tile(x, y).wires[pad[0] * self.fabric.tracks + pad[5]])


def tile_at(wall, place, side):
    """Return the tile at a place of a wall of the square."""
    if wall in (SOUTH, NORTH):
        return (place, side - 1 if wall == SOUTH else 0)
    return (side - 1 if wall == EAST else 0, place)


def found_cell(tile, sources, numbers):
    """Return the cell of a tile by the sources of its inputs and the numbers of cells: what is zero is left out."""
    inputs = []
    spots = []
    for at, source in enumerate(sources):
        if source[0] != "zero":
            inputs.append(("cell", numbers[source[1]]) if source[0] == "tile" else source)
            spots.append(at)
    table = 0
    for number in range(1 << len(inputs)):
        place = sum((number >> at & 1) << spot for at, spot in enumerate(spots))
        table |= (tile.table >> place & 1) << number
    return Cell(inputs, table, tile.first if tile.holds else None)


def cells_in(fabric):
    """Return the cells of a fabric: all tiles that keep, or whose table is not all zero, in their order.

    Raise BitError for bits that go round through wires or tables alone.
    """
    finder = Finder(fabric)
    places = [place for place, tile in enumerate(fabric.tiles) if tile.is_cell()]
    numbers = {place: number for number, place in enumerate(places)}
    found = [found_cell(fabric.tiles[place], finder.read_by(place), numbers) for place in places]
    outs = {}
    handed = {}
    for pad in fabric.pads:
        if pad[2] == "out":
            source = finder.sent_by(pad)
            if source[0] == "tile":
                outs[pad[3:5]] = numbers[source[1]]
            else:
                # What goes out is a cell's bit: one more cell hands on what no tile's cell gives.
                if source not in handed:
                    handed[source] = len(found)
                    found.append(Cell([], 0) if source[0] == "zero" else Cell([source], HANDS_ON))
                outs[pad[3:5]] = handed[source]
    cells = Cells(found, outs, [pad[3:5] for pad in fabric.pads if pad[2] == "in"])
    if len(cells.order()) != len([cell for cell in found if cell.first is None]):
        raise BitError("bits go round through tables alone")
    return cells
