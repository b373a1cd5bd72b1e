"""Gates: circuits of single bits, each gate told by its place in a row.

Gates are ("zero",), ("one",), ("in", name, bit), ("keep", name, bit, first), ("not", a), ("and", a, b), ("or", a, b),
("xor", a, b) and ("pick", s, a, b), which is b where s is one, else a; a, b and s are places ahead.
"""

from chipstack.errors import GateError

MOST_GATES = 20000
SIZES = {"zero": 1, "one": 1, "in": 3, "keep": 4, "not": 2, "and": 3, "or": 3, "xor": 3, "pick": 4}
READING = ("not", "and", "or", "xor", "pick")


class Netlist:
    """Gates in a row, the places of outs by name (the lowest bit first), and the place that each keep takes next."""

    def __init__(self):
        self.gates = []
        self.outs = {}
        self.nexts = {}

    def add(self, gate):
        """Add a gate and return its place; raise GateError for too many."""
        if len(self.gates) >= MOST_GATES:
            raise GateError("there are too many gates")
        self.gates.append(gate)
        return len(self.gates) - 1

    def inputs_of(self, place):
        """Return the places that a gate reads."""
        gate = self.gates[place]
        return tuple(gate[1:]) if gate[0] in READING else ()

    def keeps(self):
        """Return the places of keeps, in order."""
        return self.places_of("keep")

    def ins(self):
        """Return the places of what comes in, in order."""
        return self.places_of("in")

    def places_of(self, word):
        """Return the places of the gates with a word, in order."""
        return [place for place, gate in enumerate(self.gates) if gate[0] == word]

    def shown(self):
        """Return (gates, outs by name, what keeps take next by place)."""
        outs = tuple((name, tuple(self.outs[name])) for name in sorted(self.outs))
        nexts = tuple((place, self.nexts[place]) for place in sorted(self.nexts))
        return (tuple(self.gates), outs, nexts)

    def count(self):
        """Return how many gates are neither constant, nor come in, nor keep."""
        return len([gate for gate in self.gates if gate[0] in READING])

    def levels(self):
        """Return for each gate how many gates stand in the longest way to it."""
        found = []
        for place in range(len(self.gates)):
            found.append(max([found[one] + 1 for one in self.inputs_of(place)], default=0))
        return found


def check_netlist(netlist):
    """Raise GateError for gates that read places behind them, bits told twice, outs and nexts that are not there."""
    seen = {}
    for place, gate in enumerate(netlist.gates):
        if len(gate) == 0 or gate[0] not in SIZES or len(gate) != SIZES[gate[0]]:
            raise GateError(f"place {place} has no gate")
        if any(not 0 <= one < place for one in netlist.inputs_of(place)):
            raise GateError(f"the gate at {place} reads what is not ahead of it")
        if gate[0] in ("in", "keep"):
            if gate[:3] in seen:
                raise GateError(f"bit {gate[2]} of {gate[1]} is told twice")
            seen[gate[:3]] = True
    rows = [place for name in netlist.outs for place in netlist.outs[name]]
    rows.extend(list(netlist.nexts.values()))
    many = len(netlist.gates)
    if any(not 0 <= place < many for place in rows) or sorted(netlist.nexts) != netlist.keeps():
        raise GateError("what goes out, or is kept next, is not there")


def gate_value(gate, values):
    """Return the bit of a gate that reads others, by a row of bits."""
    word = gate[0]
    if word == "not":
        return 1 - values[gate[1]]
    if word == "and":
        return values[gate[1]] & values[gate[2]]
    if word == "or":
        return values[gate[1]] | values[gate[2]]
    if word == "xor":
        return values[gate[1]] ^ values[gate[2]]
    if word == "pick":
        return values[gate[3]] if values[gate[1]] else values[gate[2]]
    # Constants read nothing, but give a bit all the same.
    return 1 if word == "one" else 0


class Run:
    """A netlist, and the bit that each keep has now, by its place."""

    def __init__(self, netlist):
        self.netlist = netlist
        self.state = {place: netlist.gates[place][3] for place in netlist.keeps()}

    def values(self, ins):
        """Return the bits of all gates; ins is a table of names to numbers. Raise GateError for a name that lacks."""
        return self.bits_by(ins)

    def bits_by(self, ins):
        """Return the bits of all gates by what comes in."""
        bits = []
        for place, gate in enumerate(self.netlist.gates):
            if gate[0] == "in":
                if gate[1] not in ins:
                    raise GateError(f"{gate[1]} does not come in")
                bits.append(ins[gate[1]] >> gate[2] & 1)
            elif gate[0] == "keep":
                bits.append(self.state[place])
            else:
                bits.append(gate_value(gate, bits))
        return bits

    def given(self, ins):
        """Return a table of what goes out, as whole numbers; nothing is kept."""
        return self.numbers_of(self.bits_by(ins))

    def numbers_of(self, bits):
        """Return a table of what goes out by the bits of all gates."""
        found = {}
        for name, places in self.netlist.outs.items():
            found[name] = sum(bits[place] << at for at, place in enumerate(places))
        return found

    def step(self, ins):
        """Return what goes out, and keep what comes next."""
        bits = self.bits_by(ins)
        self.state = {place: bits[after] for place, after in self.netlist.nexts.items()}
        return self.numbers_of(bits)

    def kept(self):
        """Return a table of what is kept now, by name, as whole numbers."""
        found = {}
        for place in self.netlist.keeps():
            gate = self.netlist.gates[place]
            found[gate[1]] = found.get(gate[1], 0) | self.state[place] << gate[2]
        return found
