"""Chains: circuits whose kept bits can be moved along in a row, so that they can be set and seen from outside."""

from chipstack.errors import GateError
from chipstack.gates import Netlist

NAMES = ("chain", "moves", "tail")


def with_chain(netlist):
    """Return a netlist with two more bits coming in, "chain" and "moves", and one going out, "tail".

    While moves is 1 each keep takes the bit of the keep ahead of it (in their order), the first one takes chain; tail
    is the last one's bit, or chain without any. Else it is as before. Raise GateError if it has these names.
    """
    names = {gate[1]: True for gate in netlist.gates if gate[0] in ("in", "keep")}
    names.update({name: True for name in netlist.outs})
    if any(name in names for name in NAMES):
        raise GateError("the names of a chain are taken")
    found = Netlist()
    for gate in netlist.gates:
        found.add(gate)
    found.outs = {name: list(netlist.outs[name]) for name in netlist.outs}
    ahead = found.add(("in", "chain", 0))
    moves = found.add(("in", "moves", 0))
    for place in netlist.keeps():
        found.nexts[place] = found.add(("pick", moves, netlist.nexts[place], ahead))
        ahead = place
    found.outs["tail"] = [ahead]
    return found


def chain_order(netlist):
    """Return (name, bit) of the keeps in the order in which bits move along."""
    return tuple(netlist.gates[place][1:3] for place in netlist.keeps())


def set_by_chain(run, ins, bits):
    """Move bits into a run with a chain so that they are the kept ones, in order; return the bits that came out.

    What came out are the bits that were kept before, in order. Raise GateError for another number of bits.
    """
    many = len(run.state)
    if len(bits) != many:
        raise GateError(f"{len(bits)} bits are not {many}")
    table = {name: ins[name] for name in ins}
    table["moves"] = 1
    found = []
    # The first bit that is moved in ends at the last keep.
    for bit in reversed(list(bits)):
        table["chain"] = bit
        found.append(run.step(table)["tail"])
    found.reverse()
    return tuple(found)
