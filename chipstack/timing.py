"""Timing: how long bits take through cells and wires, and how short a beat may be."""

from chipstack.errors import GateError, PlaceError
from chipstack.tables import input_bit

CELL = 4
WIRE = 1
SETUP = 2
# How x and y change by a step through the walls east, south, west and north.
ACROSS = (1, 0, -1, 0)
DOWN = (0, 1, 0, -1)


class Timing:
    """When each cell's bit is there, when each bit reaches each cell, the longest way, and where it ends."""

    def __init__(self):
        self.there = {}
        self.reaches = {}
        self.longest = 0
        self.worst = None


def wires_back(routes, layout, ways, source, number):
    """Return the wires that a bit passes to a cell, from the cell back to its source."""
    if (source, number) not in ways:
        raise PlaceError(f"no way of {source} leads to cell {number}")
    tile = layout.tiles[number]
    way = ways[(source, number)]
    found = []
    while way[0] == "wire":
        tile = neighbour(tile, way[1])
        # What comes in comes over no wire of a tile, but from its pad outside of the square.
        if source in layout.pads and tile == layout.spot(source):
            return found
        wire = (tile[0], tile[1], (way[1] + 2) % 4, way[2])
        found.append(wire)
        if routes.wires.get(wire, None) != source or wire not in routes.sources or len(found) > len(routes.wires):
            raise PlaceError(f"wire {wire} is none of {source}")
        way = routes.sources[wire]
    return found


def neighbour(tile, wall):
    """Return the tile beside one, by a wall: east, south, west or north."""
    return (tile[0] + ACROSS[wall], tile[1] + DOWN[wall])


def timing_of(cells, layout, routes, ways):
    """Return the timing of cells that are laid out: a wire takes 1, a cell's table 4, what is kept 2 ahead of the beat.

    What comes in and what is kept is there at 0. The longest way is the least length of a beat; worst is the cell
    where it ends, or None without cells.
    """
    found = Timing()
    found.there = {number: 0 for number, cell in enumerate(cells.cells) if cell.first is not None}
    keeps = list(found.there)
    for number in cells.order():
        found.there[number] = last_reach(found, cells, layout, routes, ways, number) + CELL
    if len(found.there) != len(cells.cells):
        raise PlaceError("tables read each other all around")
    ends = {number: found.there[number] for number in found.there}
    for number in keeps:
        ends[number] = last_reach(found, cells, layout, routes, ways, number) + CELL + SETUP
    for number in sorted(ends):
        if ends[number] > found.longest:
            found.longest = ends[number]
            found.worst = number
    return found


def last_reach(timing, cells, layout, routes, ways, number):
    """Tell a timing when bits reach a cell, and return when the last one does."""
    last = 0
    for source in cells.cells[number].inputs:
        start = timing.there[source[1]] if source[0] == "cell" else 0
        reached = start + WIRE * len(wires_back(routes, layout, ways, source, number))
        timing.reaches[(source, number)] = reached
        last = max(last, reached)
    return last


class TimedRun:
    """Cells that are laid out, their timing, the bits that are kept, and bits as they change in time within a beat."""

    def __init__(self, cells, timing, beat):
        self.cells = cells
        self.timing = timing
        self.long = beat
        self.sequence = cells.order()
        self.state = {number: cell.first for number, cell in enumerate(cells.cells) if cell.first is not None}
        self.before = {}
        # What came in in the beat before: it is on the wires until something else reaches a cell. Ahead of the first
        # beat that is what comes in then, just as what is kept is what it begins with.
        self.came = {}

    def step(self, ins):
        """Return what goes out at the end of a beat, and keep what has come by then.

        Bits that are late count as before. Before the first beat all bits of cells that do not keep are 0.
        """
        seen = {}
        for number in self.sequence:
            seen[number] = self.changes(number, ins, seen)
        after = {number: self.answer_at(self.inputs_in_time(number, ins, seen), number, self.long - SETUP)
                 for number in self.state}
        bits = {number: self.state[number] for number in self.state}
        for number in self.sequence:
            bits[number] = value_at(seen[number], self.long)
        self.state = after
        self.before = bits
        self.came = {name: ins[name] for name in ins}
        found = {}
        for (name, bit), number in self.cells.outs.items():
            found[name] = found.get(name, 0) | bits[number] << bit
        return found

    def changes(self, number, ins, seen):
        """Return (time, bit) rows of a cell that does not keep, from time 0 on, each bit unlike the one before."""
        inputs = self.inputs_in_time(number, ins, seen)
        # A table that reads nothing gives its bit as if something had been there at 0.
        times = {CELL: True} if inputs == [] else {}
        for earlier, rows in inputs:
            for time, bit in rows:
                times[time + CELL] = True
        found = [(0, self.before.get(number, 0))]
        for time in sorted(times):
            bit = self.answer_at(inputs, number, time)
            if bit != found[-1][1]:
                found.append((time, bit))
        return tuple(found)

    def answer_at(self, inputs, number, time):
        """Return the bit that a cell's table gives at a time: that of its inputs as they were when it took them."""
        bits = []
        for earlier, rows in inputs:
            bits.append(earlier if time - CELL < rows[0][0] else value_at(rows, time - CELL))
        return self.cells.cells[number].table >> number_of(bits) & 1

    def inputs_in_time(self, number, ins, seen):
        """Return for each input of a cell (the bit that is there first, (time, bit) rows as they reach the cell)."""
        found = []
        for source in self.cells.cells[number].inputs:
            reached = self.timing.reaches[(source, number)]
            if source[0] == "in":
                now = input_bit(source, ins, {})
                earlier = input_bit(source, self.came, {}) if source[1] in self.came else now
                found.append((earlier, [(reached, now)]))
            elif source[1] in self.state:
                kept = self.state[source[1]]
                found.append((self.before.get(source[1], kept), [(reached, kept)]))
            elif source[1] in seen:
                rows = seen[source[1]]
                wires = reached - self.timing.there[source[1]]
                found.append((rows[0][1], [(time + wires, bit) for time, bit in rows]))
            else:
                raise GateError(f"nothing is told of cell {source[1]}, which cell {number} reads")
        return found


def value_at(rows, time):
    """Return the bit of (time, bit) rows at a time; ahead of the first one the first bit."""
    found = rows[0][1]
    for start, bit in rows:
        if start <= time:
            found = bit
    return found


def number_of(bits):
    """Return the number of some bits, the first one the lowest."""
    return sum(bit << at for at, bit in enumerate(bits))
