"""Tables: gates put together into cells of up to four inputs, each told by what it gives for all of their bits."""

from chipstack.errors import GateError
from chipstack.gates import READING

MOST_INPUTS = 4
MOST_CUTS = 6


class Cell:
    """The inputs (rows: ("in", name, bit) or ("cell", number)), a table as a number, and what it keeps first, or None.

    Bit b of the table is the answer for inputs that are the bits of b, the first one the lowest. A cell that keeps
    gives what it kept, and keeps what its table gives.
    """

    def __init__(self, inputs, table, first=None):
        self.inputs = tuple(inputs)
        self.table = table
        self.first = first

    def shown(self):
        """Return (inputs, table, first)."""
        return (self.inputs, self.table, self.first)


class Cells:
    """Cells in a row, the number of the cell of each bit that goes out, by (name, bit), and the pins that come in."""

    def __init__(self, cells, outs, ins):
        self.cells = list(cells)
        self.outs = {key: outs[key] for key in outs}
        self.pins = tuple(ins)

    def order(self):
        """Return the numbers of cells that do not keep, each behind those it reads."""
        lacking = {}
        readers = {}
        for number, cell in enumerate(self.cells):
            if cell.first is None:
                read = self.tables_read(cell)
                lacking[number] = len(read)
                for one in read:
                    readers.setdefault(one, []).append(number)
        found = [number for number in lacking if lacking[number] == 0]
        at = 0
        while at < len(found):
            for number in readers.get(found[at], []):
                lacking[number] -= 1
                if lacking[number] == 0:
                    found.append(number)
            at += 1
        return found

    def tables_read(self, cell):
        """Return the numbers of the cells that do not keep, and that a cell reads, one for each input."""
        numbers = [row[1] for row in cell.inputs if row[0] == "cell"]
        return [number for number in numbers if self.cells[number].first is None]


class Cut:
    """The places that a gate's answer can be told by, and how many tables stand in the longest way to it."""

    def __init__(self, places, depth):
        self.places = tuple(places)
        self.depth = depth

    def rank(self):
        """Return what cuts are ranked by."""
        return (self.depth, len(self.places), self.places)


class Mapper:
    """A netlist, the cuts and the best one of each gate, the cells that were made, and places still to be made."""

    def __init__(self, netlist):
        self.netlist = netlist
        self.cuts = []
        self.best = []
        self.cells = []
        # Places whose cells are asked for, in the order of the numbers of these cells.
        self.asked = []
        self.numbers = {}

    def find_cuts(self):
        """Find the cuts of all gates: up to six each, those of the least depth, then of the fewest places."""
        self.cuts = []
        self.best = []
        for place, gate in enumerate(self.netlist.gates):
            if gate[0] in READING:
                found = self.cuts_of(place)
                self.best.append(found[0])
                # Those that read the gate may also be told by itself.
                self.cuts.append([*found, Cut((place,), found[0].depth)])
            else:
                # Constants are told by nothing; what comes in, or is kept, by itself alone.
                cut = Cut((place,) if gate[0] in ("in", "keep") else (), 0)
                self.best.append(cut)
                self.cuts.append([cut])

    def cuts_of(self, place):
        """Return the best cuts of a gate that reads others, the best one first."""
        rows = {(): True}
        for one in self.netlist.inputs_of(place):
            rows = self.joined(rows, self.cuts[one])
        ranks = sorted([Cut(places, self.depth_by(places)).rank() for places in rows])
        return [Cut(places, depth) for depth, many, places in ranks[:MOST_CUTS]]

    def joined(self, rows, cuts):
        """Return a table of all places of rows together with those of cuts, as far as they are not too many."""
        found = {}
        for places in rows:
            for cut in cuts:
                both = tuple(sorted(set(places + cut.places)))
                if len(both) <= MOST_INPUTS:
                    found[both] = True
        return found

    def depth_by(self, places):
        """Return how many tables stand in the longest way to a gate that is told by some places."""
        return max([self.best[place].depth + 1 for place in places], default=0)

    def table_of(self, place, leaves):
        """Return the table of a gate by some places: its answers for all of their bits, as a number."""
        full = (1 << (1 << len(leaves))) - 1
        answers = {leaf: pattern_of(at, len(leaves)) for at, leaf in enumerate(leaves)}
        for one in self.places_between(place, leaves):
            answers[one] = gate_answers(self.netlist.gates[one], answers, full)
        return answers[place]

    def places_between(self, place, leaves):
        """Return the places that stand between a gate and its leaves, itself among them, ascending."""
        found = {}
        waiting = [place]
        while waiting:
            one = waiting.pop()
            if one not in found and one not in leaves:
                found[one] = True
                waiting.extend(self.netlist.inputs_of(one))
        return sorted(found)

    def source(self, place):
        """Return the row that tells where a place's bit comes from; its cell is asked for if it is not there."""
        gate = self.netlist.gates[place]
        if gate[0] == "in":
            return gate
        return ("cell", self.number_of(place))

    def number_of(self, place):
        """Return the number of a place's cell, which is asked for if it is not there."""
        if place not in self.numbers:
            self.numbers[place] = len(self.asked)
            self.asked.append(place)
        return self.numbers[place]

    def make_cells(self):
        """Make the cells that are asked for, and those that they ask for."""
        while len(self.cells) < len(self.asked):
            place = self.asked[len(self.cells)]
            gate = self.netlist.gates[place]
            keeps = gate[0] == "keep"
            told = self.netlist.nexts[place] if keeps else place
            leaves = self.best[told].places
            inputs = [self.source(leaf) for leaf in leaves]
            self.cells.append(Cell(inputs, self.table_of(told, leaves), gate[3] if keeps else None))


def pattern_of(at, many):
    """Return the table of one of many inputs: bit b is the bit of b that is its own."""
    return sum(1 << number for number in range(1 << many) if number >> at & 1)


def gate_answers(gate, answers, full):
    """Return the table of a gate by those of the gates that it reads; full is one in which all bits are 1."""
    word = gate[0]
    if word in ("zero", "one"):
        return full if word == "one" else 0
    one = answers[gate[1]]
    if word == "not":
        return full ^ one
    other = answers[gate[2]]
    if word == "and":
        return one & other
    if word == "or":
        return one | other
    if word == "xor":
        return one ^ other
    return (answers[gate[3]] & one) | (other & (full ^ one))


def cells_of(netlist):
    """Return the cells of a netlist, one for each bit that goes out, each that is kept, and each that others read.

    A bit that comes in and goes out has a cell that hands it on.
    """
    mapper = Mapper(netlist)
    mapper.find_cuts()
    for place in netlist.keeps():
        mapper.number_of(place)
    outs = {}
    for name in sorted(netlist.outs):
        for bit, place in enumerate(netlist.outs[name]):
            outs[(name, bit)] = mapper.number_of(place)
    mapper.make_cells()
    pins = [(netlist.gates[place][1], netlist.gates[place][2]) for place in netlist.ins()]
    return Cells(mapper.cells, outs, pins)


def input_bit(row, ins, bits):
    """Return the bit of an input, by what comes in and the bits of cells; raise GateError if it does not come in."""
    if row[0] == "cell":
        return bits[row[1]]
    if row[1] not in ins:
        raise GateError(f"{row[1]} does not come in")
    return ins[row[1]] >> row[2] & 1


class CellRun:
    """Cells, their order, and the bit that each one keeps now."""

    def __init__(self, cells):
        self.cells = cells
        self.sequence = cells.order()
        self.state = {number: cell.first for number, cell in enumerate(cells.cells) if cell.first is not None}

    def values(self, ins):
        """Return the bits of all cells by number."""
        return self.bits_by(ins)

    def bits_by(self, ins):
        """Return the bits of all cells by what comes in."""
        bits = {number: self.state[number] for number in self.state}
        for number in self.sequence:
            bits[number] = self.answer(number, ins, bits)
        return bits

    def answer(self, number, ins, bits):
        """Return what a cell's table gives by what comes in and the bits of other cells."""
        cell = self.cells.cells[number]
        place = 0
        for at, row in enumerate(cell.inputs):
            place |= input_bit(row, ins, bits) << at
        return cell.table >> place & 1

    def given(self, ins):
        """Return a table of what goes out, as whole numbers; nothing is kept."""
        return self.numbers_of(self.bits_by(ins))

    def numbers_of(self, bits):
        """Return a table of what goes out by the bits of all cells."""
        found = {}
        for (name, bit), number in self.cells.outs.items():
            found[name] = found.get(name, 0) | bits[number] << bit
        return found

    def step(self, ins):
        """Return what goes out, and keep what comes next."""
        bits = self.bits_by(ins)
        self.state = {number: self.answer(number, ins, bits) for number in self.state}
        return self.numbers_of(bits)
