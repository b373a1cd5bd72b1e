"""Faults: bits that stay as they are, whatever should come, and tests that find them."""

from chipstack.errors import GateError
from chipstack.gates import gate_value
from chipstack.mixing import below, mixed_on, seeded
from chipstack.tables import gate_answers

MOST_TESTS = 1000
MOST_AT_ONCE = 1000


class Test:
    """What comes in and what is kept, by name, as numbers."""

    def __init__(self, ins, kept):
        self.comes = {name: ins[name] for name in ins}
        self.stored = {name: kept[name] for name in kept}

    def shown(self):
        """Return (what comes in, what is kept), ascending."""
        return (tuple(sorted(self.comes.items())), tuple(sorted(self.stored.items())))


def all_faults(netlist):
    """Return all (place, bit): each gate that is no constant may stay at 0 or at 1."""
    return tuple((place, bit) for place, gate in enumerate(netlist.gates) if gate[0] not in ("zero", "one")
                 for bit in range(2))


def told_bit(gate, test):
    """Return the bit of what comes in, or is kept, by a test; raise GateError if it does not tell it."""
    table = test.comes if gate[0] == "in" else test.stored
    if gate[1] not in table:
        raise GateError(f"nothing is told of {gate[1]}")
    return table[gate[1]] >> gate[2] & 1


def end_places(netlist):
    """Return the places of all ends: outs by name, the lowest bits first, then what keeps take, by place."""
    found = [place for name in sorted(netlist.outs) for place in netlist.outs[name]]
    found.extend([netlist.nexts[place] for place in netlist.keeps()])
    return found


def ends_by(netlist, test, fault=None):
    """Return the bits of all ends by a test: outs by name, then what is kept next by place.

    With a fault, if one is told.
    """
    bits = []
    for place, gate in enumerate(netlist.gates):
        bit = told_bit(gate, test) if gate[0] in ("in", "keep") else gate_value(gate, bits)
        if fault is not None and fault[0] == place:
            bit = fault[1]
        bits.append(bit)
    return tuple(bits[place] for place in end_places(netlist))


def finds(netlist, test, fault):
    """Return True if some end shows a fault by a test."""
    return ends_by(netlist, test) != ends_by(netlist, test, fault)


def shown_faults(netlist, test, faults):
    """Return those of some faults that a test finds, in order."""
    found = []
    # Without a fault the test is looked at all the same.
    for start in range(0, max(1, len(faults)), MOST_AT_ONCE):
        found.extend(shown_at_once(netlist, test, faults[start:start + MOST_AT_ONCE]))
    return found


def shown_at_once(netlist, test, faults):
    """Return those of not too many faults that a test finds, in order.

    Each gate has a row of bits as one number, the lowest as without a fault, then one for each fault: so all faults
    are tried at once.
    """
    full = (1 << (len(faults) + 1)) - 1
    at_zero, at_one = turned_bits(faults)
    answers = {}
    for place, gate in enumerate(netlist.gates):
        if gate[0] in ("in", "keep"):
            row = full if told_bit(gate, test) else 0
        else:
            row = gate_answers(gate, answers, full)
        answers[place] = (row | at_one.get(place, 0)) & (full ^ at_zero.get(place, 0))
    unlike = 0
    for place in end_places(netlist):
        row = answers[place]
        unlike |= row ^ full if row & 1 else row
    return [fault for at, fault in enumerate(faults, start=1) if unlike >> at & 1]


def turned_bits(faults):
    """Return two tables of places to the bits of their faults: of those that stay at 0, and of those at 1."""
    tables = [{}, {}]
    for at, (place, bit) in enumerate(faults, start=1):
        tables[bit][place] = tables[bit].get(place, 0) | 1 << at
    return tables


def found_by(netlist, tests):
    """Return the faults that some of the tests find, in order."""
    left = list(all_faults(netlist))
    found = {}
    for test in tests:
        for fault in shown_faults(netlist, test, left):
            found[fault] = True
        left = [fault for fault in left if fault not in found]
    return tuple(sorted(found))


class TestMaker:
    """A netlist, a number that is mixed on, and the widths of what comes in and what is kept."""

    def __init__(self, netlist, seed):
        self.netlist = netlist
        self.widths = {}
        for gate in netlist.gates:
            if gate[0] in ("in", "keep"):
                self.widths[gate[:2]] = max(self.widths.get(gate[:2], 0), gate[2] + 1)
        self.mixed = seeded(seed)

    def roll(self, many):
        """Return a number from 0 to below another one, mixed on from the one before."""
        self.mixed = mixed_on(self.mixed)
        return below(self.mixed, many)

    def next_test(self):
        """Return another test: what comes in first, then what is kept."""
        tables = {"in": {}, "keep": {}}
        # What comes in stands ahead of what is kept, since "in" stands ahead of "keep".
        for word, name in sorted(self.widths):
            tables[word][name] = self.roll(1 << self.widths[(word, name)])
        return Test(tables["in"], tables["keep"])


def tests_for(netlist, seed=1, most=100):
    """Return (tests, faults that none of them finds): of so many tests those that find a fault those before do not."""
    if not 0 <= most <= MOST_TESTS:
        raise GateError(f"{most} tests are too many, or too few")
    maker = TestMaker(netlist, seed)
    left = list(all_faults(netlist))
    kept = []
    for _ in range(most):
        test = maker.next_test()
        found = {fault: True for fault in shown_faults(netlist, test, left)}
        if found:
            kept.append(test)
            left = [fault for fault in left if fault not in found]
    return (tuple(kept), tuple(left))


def fewer(netlist, tests):
    """Return tests without those, from the last one on, whose faults all others find, too."""
    rows = [shown_faults(netlist, test, all_faults(netlist)) for test in tests]
    many = {}
    for row in rows:
        for fault in row:
            many[fault] = many.get(fault, 0) + 1
    gone = {}
    for at in range(len(rows) - 1, -1, -1):
        if all(many[fault] > 1 for fault in rows[at]):
            gone[at] = True
            for fault in rows[at]:
                many[fault] -= 1
    return tuple(test for at, test in enumerate(tests) if at not in gone)
