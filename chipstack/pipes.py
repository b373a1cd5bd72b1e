"""Pipes: circuits without kept bits, cut into stages that work one behind the other."""

from chipstack.errors import GateError
from chipstack.gates import READING, Netlist

MOST_STAGES = 16


def in_stages(netlist, many):
    """Return a netlist that gives what another one gives, so many beats less one later: gates stand in so many stages.

    A gate's stage goes by its level: the levels are parted evenly. What is read in a later stage is kept from stage
    to stage. What goes out does so behind the last stage. Raise GateError for one that keeps, and for no stages, or
    above sixteen.
    """
    if netlist.keeps() != [] or not 1 <= many <= MOST_STAGES:
        raise GateError(f"this is not cut into {many} stages")
    stager = Stager(netlist, many)
    for place in range(len(netlist.gates)):
        stager.move(place)
    for name in netlist.outs:
        stager.made.outs[name] = [stager.place_in(place, many - 1) for place in netlist.outs[name]]
    return stager.made


class Stager:
    """A netlist, how many stages, the stage of each gate, the netlist that is made, and places by (gate, stage)."""

    def __init__(self, netlist, many):
        self.netlist = netlist
        self.many = many
        levels = netlist.levels()
        parts = max(levels, default=0) + 1
        self.stages = [level * many // parts for level in levels]
        self.made = Netlist()
        self.places = {}

    def move(self, place):
        """Add a gate to the netlist that is made, in its stage."""
        gate = self.netlist.gates[place]
        stage = self.stages[place]
        if gate[0] in READING:
            gate = (gate[0], *[self.place_in(one, stage) for one in gate[1:]])
        self.places[(place, stage)] = self.made.add(gate)

    def place_in(self, place, stage):
        """Return the place at which a gate's bit is in a stage; it is kept on up to there."""
        for later in range(self.stages[place] + 1, stage + 1):
            if (place, later) not in self.places:
                # A bit that is kept on has the name of its gate, and the bit of the stage that it is kept in front of.
                keep = self.made.add(("keep", f"gate{place}", later - 1, 0))
                self.made.nexts[keep] = self.places[(place, later - 1)]
                self.places[(place, later)] = keep
        return self.places[(place, stage)]
