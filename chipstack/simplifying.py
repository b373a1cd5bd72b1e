"""Simplifying: gates that do the same in simpler words."""

from chipstack.gates import READING, Netlist


class Simplifier:
    """The netlist that is being made, the places of its gates by what they are, and those of zero and one."""

    def __init__(self):
        self.netlist = Netlist()
        self.places = {}
        self.zero = self.put(("zero",))
        self.one = self.put(("one",))

    def put(self, gate):
        """Return the place of a gate, which is added if it is not there."""
        if gate not in self.places:
            self.places[gate] = len(self.netlist.gates)
            # In between there may be more gates than before, so their number has no limit here.
            self.netlist.gates.append(gate)
        return self.places[gate]

    def opposite(self, place):
        """Return the place of what is one where another one is zero."""
        if place == self.zero:
            return self.one
        if place == self.one:
            return self.zero
        gate = self.netlist.gates[place]
        return gate[1] if gate[0] == "not" else self.put(("not", place))

    def are_opposite(self, one, other):
        """Return True if one of two is told as the other one turned."""
        gates = self.netlist.gates
        return gates[one] == ("not", other) or gates[other] == ("not", one)

    def gate(self, word, inputs):
        """Return the place of a gate over others, in simpler words if there are."""
        if word == "not":
            return self.opposite(inputs[0])
        if word == "pick":
            return self.picked(inputs[0], inputs[1], inputs[2])
        one, other = min(inputs), max(inputs)
        # Zero and one have the first two places, so a constant is the lesser of two.
        if one == self.zero or one == self.one:
            return self.with_constant(word, one == self.one, other)
        if one == other:
            return self.zero if word == "xor" else one
        if self.are_opposite(one, other):
            return self.zero if word == "and" else self.one
        return self.put((word, one, other))

    def with_constant(self, word, is_one, place):
        """Return the place of a gate over a constant and another place."""
        if word == "xor":
            return self.opposite(place) if is_one else place
        if word == "and":
            return place if is_one else self.zero
        return self.one if is_one else place

    def picked(self, test, one, other):
        """Return the place of what is another place's bit where a test is one, else one's."""
        if one == other:
            return one
        if test == self.zero or test == self.one:
            return other if test == self.one else one
        if one == self.zero or one == test:
            return self.gate("and", (test, other))
        if other == self.one or other == test:
            return self.gate("or", (test, one))
        if one == self.one or self.are_opposite(one, test):
            return self.gate("or", (self.opposite(test), other))
        if other == self.zero or self.are_opposite(other, test):
            return self.gate("and", (self.opposite(test), one))
        if self.are_opposite(one, other):
            return self.gate("xor", (test, one))
        return self.put(("pick", test, one, other))

    def moved(self, netlist, place, places):
        """Return the place of another netlist's gate, by the places of those ahead of it."""
        gate = netlist.gates[place]
        if gate[0] in READING:
            return self.gate(gate[0], [places[one] for one in gate[1:]])
        if gate[0] == "keep" and is_still(netlist, place):
            return self.one if gate[3] else self.zero
        return self.put(gate)


def is_still(netlist, place):
    """Return True for a keep that takes itself, or the constant that it begins with."""
    after = netlist.nexts[place]
    constant = ("one",) if netlist.gates[place][3] else ("zero",)
    return after == place or netlist.gates[after] == constant


def needed(netlist):
    """Return the places that outs hang on, over keeps too."""
    found = {}
    waiting = [place for name in netlist.outs for place in netlist.outs[name]]
    while waiting:
        place = waiting.pop()
        if place not in found:
            found[place] = True
            waiting.extend(netlist.inputs_of(place))
            if place in netlist.nexts:
                waiting.append(netlist.nexts[place])
    return found


def simplified_once(netlist):
    """Return a netlist that does the same: what nothing hangs on goes, equal gates are one, constants are put in.

    A keep that is never anything but its first bit is that. What comes in stays, even if nothing hangs on it.
    """
    maker = Simplifier()
    wanted = needed(netlist)
    places = {}
    for place in range(len(netlist.gates)):
        if place in wanted or netlist.gates[place][0] == "in":
            places[place] = maker.moved(netlist, place, places)
    tell_ends(maker.netlist, netlist, places)
    return without_idle(maker.netlist)


def tell_ends(made, netlist, places):
    """Let a netlist give and keep what another one does, by the new places of its gates."""
    for name in netlist.outs:
        made.outs[name] = [places[place] for place in netlist.outs[name]]
    for place in netlist.keeps():
        # A keep that became a constant takes nothing any more.
        if place in places and made.gates[places[place]][0] == "keep":
            made.nexts[places[place]] = places[netlist.nexts[place]]


def without_idle(netlist):
    """Return a netlist without the gates that no out hangs on; what comes in stays."""
    made = Netlist()
    wanted = needed(netlist)
    places = {}
    for place in range(len(netlist.gates)):
        gate = netlist.gates[place]
        if place in wanted or gate[0] == "in":
            places[place] = len(made.gates)
            made.gates.append(by_places(gate, places))
    tell_ends(made, netlist, places)
    return made


def by_places(gate, places):
    """Return a gate that reads what it did, by new places."""
    if gate[0] not in READING:
        return gate
    return (gate[0], *[places[one] for one in gate[1:]])


def simplified(netlist):
    """Return a netlist that does the same, simplified again and again until nothing changes."""
    found = simplified_once(netlist)
    again = simplified_once(found)
    while again.shown() != found.shown():
        found = again
        again = simplified_once(found)
    return found
