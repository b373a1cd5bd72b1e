"""Equality: whether two circuits do the same, bit for bit, and where they do not."""

from chipstack.errors import GateError
from chipstack.gates import READING, gate_value

MOST_NODES = 4000
MOST_BITS = 200


class Deciding:
    """Nodes that ask one bit each, in order (place, node if it is 0, node if it is 1), by number.

    0 and 1 are the answers.
    """

    def __init__(self):
        self.nodes = {}
        # The numbers of nodes by what they are, and what was picked before.
        self.made = {}
        self.memo = {}

    def node(self, place, low, high):
        """Return the node that asks a bit, left out where both answers lead to the same.

        Raise GateError for too many.
        """
        if low == high:
            return low
        key = (place, low, high)
        if key not in self.made:
            if len(self.nodes) >= MOST_NODES:
                raise GateError("deciding takes too many nodes")
            number = len(self.nodes) + 2
            self.nodes[number] = key
            self.made[key] = number
        return self.made[key]

    def pick(self, test, one, other):
        """Return the node that is another one where a test is 1, else one."""
        many = len(self.nodes)
        try:
            return self.chosen(test, one, other)
        except GateError:
            self.forget(many)
            raise

    def forget(self, many):
        """Let nodes be as they were when there were so many: what raises changes nothing."""
        gone = [number for number in self.nodes if number >= many + 2]
        for number in gone:
            self.made.pop(self.nodes.pop(number))
        self.memo = {key: self.memo[key] for key in self.memo if max([*key, self.memo[key]]) < many + 2}

    def chosen(self, test, one, other):
        """Return the node that is another one where a test is 1, wherever that leads to."""
        # As many bits as there are may be asked one below the other, so what waits stands in a row of its own.
        waiting = [(test, one, other)]
        while waiting:
            key = waiting[-1]
            if self.known(key) is None:
                place = min(self.nodes[node][0] for node in key if node > 1)
                lower = tuple(self.behind(node, place, 1) for node in key)
                upper = tuple(self.behind(node, place, 2) for node in key)
                lacking = [row for row in (lower, upper) if self.known(row) is None]
                waiting.extend(lacking)
                if lacking == []:
                    self.memo[key] = self.node(place, self.known(lower), self.known(upper))
            else:
                waiting.pop()
        return self.known((test, one, other))

    def known(self, key):
        """Return the node that is another one where a test is 1, if that is seen at once or was found before."""
        test, one, other = key
        if test < 2 or one == other:
            return other if test == 1 else one
        if one == 0 and other == 1:
            return test
        return self.memo.get(key, None)

    def behind(self, node, place, answer):
        """Return what a node leads to by an answer to the bit of a place: itself if it does not ask that bit."""
        if node < 2 or self.nodes[node][0] != place:
            return node
        return self.nodes[node][answer]

    def gate(self, gate, nodes):
        """Return the node of a gate that reads others, by a row of nodes."""
        many = len(self.nodes)
        try:
            return self.gate_node(gate, nodes)
        except GateError:
            self.forget(many)
            raise

    def gate_node(self, gate, nodes):
        """Return the node of a gate, wherever that leads to."""
        word = gate[0]
        if word not in READING:
            return 1 if word == "one" else 0
        one = nodes[gate[1]]
        if word == "not":
            return self.chosen(one, 1, 0)
        other = nodes[gate[2]]
        if word == "and":
            return self.chosen(one, 0, other)
        if word == "or":
            return self.chosen(one, other, 1)
        if word == "xor":
            return self.chosen(one, other, self.chosen(other, 1, 0))
        return self.chosen(one, other, nodes[gate[3]])

    def some_way(self, node):
        """Return a table of places to bits by which a node is 1: at each node 0 if that can be, None for none."""
        if node == 0:
            return None
        found = {}
        while node > 1:
            place, low, high = self.nodes[node]
            # Every node but 0 is 1 by some bits.
            found[place] = 0 if low != 0 else 1
            node = low if low != 0 else high
        return found


def bit_names(netlist):
    """Return the ("in", name, bit) and ("keep", name, bit) of a netlist, ascending."""
    return tuple(sorted(gate[:3] for gate in netlist.gates if gate[0] in ("in", "keep")))


def nodes_of(netlist, names, deciding, still):
    """Return the node of each gate, bits asked in the order of names; keeps that stand still are their first bits."""
    asked = {name: place for place, name in enumerate(names)}
    many = len(deciding.nodes)
    found = []
    try:
        for place, gate in enumerate(netlist.gates):
            if place in still:
                found.append(gate[3])
            elif gate[0] in ("in", "keep"):
                found.append(asking_node(gate, asked, deciding))
            else:
                found.append(deciding.gate_node(gate, found))
    except GateError:
        deciding.forget(many)
        raise
    return found


def asking_node(gate, asked, deciding):
    """Return the node that asks a bit that comes in or is kept; raise GateError if the bit is not told."""
    if gate[:3] not in asked:
        raise GateError(f"bit {gate[2]} of {gate[1]} is not told")
    return deciding.node(asked[gate[:3]], 0, 1)


def settled_nodes(netlist, names, deciding):
    """Return (the node of each gate, the keeps that are never anything but their first bit), found again and again."""
    still = {place: True for place in netlist.keeps()}
    settled = False
    while not settled:
        # What is tried on the way is not counted: only the last nodes are needed.
        nodes = nodes_of(netlist, names, Deciding(), still)
        left = {place: True for place in still if nodes[netlist.nexts[place]] == netlist.gates[place][3]}
        settled = len(left) == len(still)
        still = left
    return (nodes_of(netlist, names, deciding, still), still)


def ends_of(netlist, still):
    """Return a table of ("out", name, bit) and ("next", name, bit) to places, but for keeps that stand still."""
    found = {}
    for name in netlist.outs:
        for bit, place in enumerate(netlist.outs[name]):
            found[("out", name, bit)] = place
    for place in netlist.keeps():
        if place not in still:
            gate = netlist.gates[place]
            found[("next", gate[1], gate[2])] = netlist.nexts[place]
    return found


class Difference:
    """An end that differs, and (what comes in, what is kept) by name, as numbers, by which it does."""

    def __init__(self, end, ins, kept):
        self.end = tuple(end)
        self.comes = {name: ins[name] for name in ins}
        self.stored = {name: kept[name] for name in kept}


def difference(one, other):
    """Return a difference of two netlists, None if there is none: the least end, and bits by which it differs.

    Both have to give bits of the same names; keeps that are never anything but their first bit count as that, and
    what only one of them keeps, or what comes in for one alone, is not compared. Keeps of one name begin with the
    same bit. Raise GateError for others, for more than 200 bits, and if deciding takes too many nodes.
    """
    names = tuple(sorted(set(bit_names(one) + bit_names(other))))
    check_comparable(one, other, names)
    deciding = Deciding()
    nodes, still = settled_nodes(one, names, deciding)
    others, others_still = settled_nodes(other, names, deciding)
    ends, others_ends = ends_of(one, still), ends_of(other, others_still)
    for end in sorted(ends):
        if end in others_ends:
            node, another = nodes[ends[end]], others[others_ends[end]]
            if node != another:
                way = deciding.some_way(deciding.gate(("xor", 0, 1), (node, another)))
                told = still_bits(one, still, names)
                told.update(still_bits(other, others_still, names))
                told.update(way)
                return Difference(end, numbers_by(names, told, "in"), numbers_by(names, told, "keep"))
    return None


def check_comparable(one, other, names):
    """Raise GateError for netlists with other outs, keeps that begin otherwise, or too many bits."""
    firsts = first_bits(one)
    others = first_bits(other)
    if any(others.get(key, firsts[key]) != firsts[key] for key in firsts) or len(names) > MOST_BITS:
        raise GateError("keeps of one name begin otherwise, or there are too many bits")
    if out_widths(one) != out_widths(other):
        raise GateError("what goes out has not the same names and bits")


def first_bits(netlist):
    """Return a table of the (name, bit) of keeps to what they begin with."""
    return {netlist.gates[place][1:3]: netlist.gates[place][3] for place in netlist.keeps()}


def out_widths(netlist):
    """Return a table of what goes out to how many bits it has."""
    return {name: len(netlist.outs[name]) for name in netlist.outs}


def still_bits(netlist, still, names):
    """Return a table of the places, in a row of names, of keeps that stand still to their first bits."""
    asked = {name: place for place, name in enumerate(names)}
    return {asked[netlist.gates[place][:3]]: netlist.gates[place][3] for place in still}


def numbers_by(names, way, word):
    """Return a table of names to numbers: the bits of a class that are told, 0 for others."""
    found = {}
    for place, row in enumerate(names):
        if row[0] == word:
            found[row[1]] = found.get(row[1], 0) | way.get(place, 0) << row[2]
    return found


def shows(netlist, found):
    """Return the bit of a difference's end in a netlist, by the numbers that it tells.

    Still keeps are their first bits.
    """
    ends = ends_of(netlist, {})
    if found.end not in ends:
        raise GateError("the end of the difference is not there")
    still = settled_nodes(netlist, bit_names(netlist), Deciding())[1]
    bits = []
    for place, gate in enumerate(netlist.gates):
        if place in still:
            bits.append(gate[3])
        elif gate[0] in ("in", "keep"):
            table = found.comes if gate[0] == "in" else found.stored
            if gate[1] not in table:
                raise GateError(f"nothing is told of {gate[1]}")
            bits.append(table[gate[1]] >> gate[2] & 1)
        else:
            bits.append(gate_value(gate, bits))
    return bits[ends[found.end]]
