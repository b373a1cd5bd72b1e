"""States: all that a circuit can come to, shortest ways there, and what always holds."""

from chipstack.errors import GateError
from chipstack.gates import Run
from chipstack.tables import gate_answers

MOST_COMING_BITS = 8
MOST_STATES_FOUND = 5000


def input_tables(netlist):
    """Return the tables of all numbers that can come in, in the order of the numbers that their bits make.

    The first input by name has the lowest bits. Raise GateError for more than eight bits.
    """
    bits = coming_bits(netlist)
    if len(bits) > MOST_COMING_BITS:
        raise GateError("too many bits come in")
    found = []
    for number in range(1 << len(bits)):
        table = {name: 0 for name, bit in bits}
        for at, (name, bit) in enumerate(bits):
            table[name] |= (number >> at & 1) << bit
        found.append(table)
    return found


def coming_bits(netlist):
    """Return (name, bit) of what comes in, ascending."""
    return sorted([netlist.gates[place][1:3] for place in netlist.ins()])


class Explorer:
    """A netlist, the tables of what can come in, and a table of all states to (state before, table), in order.

    A state is the tuple of the kept bits, in the order of the gates; the first one has (None, None).
    """

    def __init__(self, netlist):
        self.netlist = netlist
        self.tables = input_tables(netlist)
        # Tables are told as the bits of a number: all of them, and those in which a bit comes in, by its gate's place.
        self.all_tables = (1 << len(self.tables)) - 1
        self.coming_rows = {place: self.row_of(netlist.gates[place]) for place in netlist.ins()}
        self.keep_places = netlist.keeps()
        self.circuit = Run(netlist)
        self.states = {}
        # Of each state: (tables, the state that follows by them), and by out the tables by which it is not 0.
        self.follows = {}
        self.given_rows = {}
        self.find_states()

    def row_of(self, gate):
        """Return the tables in which a bit that comes in is 1."""
        return sum(1 << at for at, table in enumerate(self.tables) if table[gate[1]] >> gate[2] & 1)

    def put(self, state):
        """Let the run be in a state."""
        self.circuit.state = {place: bit for place, bit in zip(self.keep_places, state)}

    def find_states(self):
        """Find all states, those that take the fewest beats first; raise GateError for too many."""
        first = tuple(self.netlist.gates[place][3] for place in self.keep_places)
        self.states[first] = (None, None)
        waiting = [first]
        at = 0
        while at < len(waiting):
            state = waiting[at]
            self.look_at(state)
            for tables, other in self.follows[state]:
                if other not in self.states:
                    if len(self.states) >= MOST_STATES_FOUND:
                        raise GateError("there are too many states")
                    self.states[other] = (state, self.first_table(tables))
                    waiting.append(other)
            at += 1

    def first_table(self, tables):
        """Return the first one of some tables."""
        return self.tables[(tables & -tables).bit_length() - 1]

    def look_at(self, state):
        """Find what follows a state, and what goes out in it, by all tables at once."""
        self.put(state)
        answers = {}
        for place, gate in enumerate(self.netlist.gates):
            if gate[0] == "in":
                answers[place] = self.coming_rows[place]
            elif gate[0] == "keep":
                answers[place] = self.all_tables if self.circuit.state[place] else 0
            else:
                answers[place] = gate_answers(gate, answers, self.all_tables)
        groups = [(self.all_tables, ())]
        for place in self.keep_places:
            groups = parted(groups, answers[self.netlist.nexts[place]])
        # Those of the first tables stand first: so states are found in the order of the tables.
        ranks = sorted([(tables & -tables, tables, other) for tables, other in groups])
        self.follows[state] = [(tables, other) for low, tables, other in ranks]
        self.given_rows[state] = {name: tuple(answers[one] for one in self.netlist.outs[name])
                                  for name in self.netlist.outs}

    def tables_with(self, state, name):
        """Return the tables by which something goes out in a state that is not 0."""
        found = 0
        for row in self.given_rows[state].get(name, ()):
            found |= row
        return found

    def way_to(self, state):
        """Return the tables that lead to a state, one of the shortest ways."""
        if state not in self.states:
            raise GateError("the circuit never comes to a state")
        found = []
        before, table = self.states[state]
        while before is not None:
            found.append(dict(table))
            before, table = self.states[before]
        found.reverse()
        return found

    def first_on(self, name):
        """Return a shortest row of tables behind the last of which something that goes out is not 0; None for never."""
        for state in self.states:
            tables = self.tables_with(state, name)
            if tables:
                return [*self.way_to(state), dict(self.first_table(tables))]
        return None

    def unanswered(self, ask, answer, many):
        """Return a row of tables in which ask goes out and answer does not, in that beat and so many behind it.

        It ends with these beats, and is one of the shortest; None if each asking is answered in time.
        """
        quiet = {state: self.all_tables ^ self.tables_with(state, answer) for state in self.states}
        lasting = self.lasting(quiet)
        for state in self.states:
            asked = self.tables_with(state, ask) & quiet[state]
            for tables, other in self.follows[state]:
                if tables & asked and lasting.get(other, many) >= many:
                    return [*self.way_to(state), dict(self.first_table(tables & asked)),
                            *self.quiet_way(other, quiet, lasting, many)]
        return None

    def lasting(self, quiet):
        """Return a table of states to how many beats it can go on by quiet tables; where it can for ever, none."""
        ahead = {state: [] for state in self.states}
        left = {}
        for state in self.states:
            after = [other for tables, other in self.follows[state] if tables & quiet[state]]
            left[state] = len(after)
            for other in after:
                ahead[other].append(state)
        found = {state: 0 for state in left if left[state] == 0}
        waiting = list(found)
        at = 0
        while at < len(waiting):
            state = waiting[at]
            for before in ahead[state]:
                left[before] -= 1
                # Of all that follow, the one that lasts longest is the last one here.
                if left[before] == 0:
                    found[before] = found[state] + 1
                    waiting.append(before)
            at += 1
        return found

    def quiet_way(self, state, quiet, lasting, many):
        """Return so many quiet tables that lead on from a state where it can go on as long."""
        found = []
        for more in range(many - 1, -1, -1):
            rows = [(tables & quiet[state], other) for tables, other in self.follows[state]
                    if tables & quiet[state] and lasting.get(other, more) >= more]
            found.append(dict(self.first_table(rows[0][0])))
            state = rows[0][1]
        return found

    def states_ahead(self):
        """Return for each state those that it can follow."""
        found = {state: [] for state in self.states}
        for state in self.states:
            for tables, other in self.follows[state]:
                found[other].append(state)
        return found

    def can_return(self):
        """Return True if from each state the first one can be reached again."""
        ahead = self.states_ahead()
        waiting = list(self.states)[:1]
        seen = {state: True for state in waiting}
        while waiting:
            state = waiting.pop()
            for before in ahead[state]:
                if before not in seen:
                    seen[before] = True
                    waiting.append(before)
        return len(seen) == len(self.states)


def parted(groups, row):
    """Return (tables, bits) groups parted by whether a bit is 1, which stands behind the other bits then."""
    found = []
    for tables, bits in groups:
        ones = tables & row
        if tables != ones:
            found.append((tables ^ ones, (*bits, 0)))
        if ones:
            found.append((ones, (*bits, 1)))
    return found


class Parting:
    """States by numbers: those that may be the same have one number, and get others as soon as something tells them."""

    def __init__(self, explorer):
        self.explorer = explorer
        self.ahead = explorer.states_ahead()
        self.numbers = {}
        self.members = []
        parts = {}
        for state in explorer.states:
            rows = explorer.given_rows[state]
            key = tuple(row for name in rows for row in rows[name])
            parts.setdefault(key, []).append(state)
        for part in parts.values():
            self.give_number(part)

    def give_number(self, part):
        """Let some states have a number that no others have."""
        self.members.append({state: True for state in part})
        for state in part:
            self.numbers[state] = len(self.members) - 1

    def part(self, moved):
        """Part states by whether they lead to those that got other numbers; return those that get others now."""
        touched = {}
        for state in moved:
            for before in self.ahead[state]:
                touched.setdefault(self.numbers[before], {})[before] = True
        found = []
        for number in touched:
            found.extend(self.part_one(number, touched[number]))
        return found

    def part_one(self, number, touched):
        """Part the states of a number, of which some lead elsewhere now; the most keep the number."""
        rows = {}
        for state in touched:
            rows.setdefault(self.leads_to(state), []).append(state)
        parts = list(rows.values())
        most = max(len(part) for part in parts)
        rest = len(self.members[number]) - len(touched)
        if 0 < rest < most:
            parts.append([state for state in self.members[number] if state not in touched])
        found = []
        stays = rest >= most
        for part in parts:
            if not stays and len(part) == most:
                stays = True
            else:
                found.extend(part)
                for state in part:
                    self.members[number].pop(state)
                self.give_number(part)
        return found

    def leads_to(self, state):
        """Return the numbers that a state leads to, and by which tables."""
        found = {}
        for tables, other in self.explorer.follows[state]:
            number = self.numbers[other]
            found[number] = found.get(number, 0) | tables
        return tuple(sorted(found.items()))


def same_states(explorer):
    """Return a table of each state to the first one from which the same goes out for all that may come, for ever."""
    parting = Parting(explorer)
    moved = list(explorer.states)
    while moved:
        moved = parting.part(moved)
    firsts = {}
    found = {}
    for state in explorer.states:
        found[state] = firsts.setdefault(parting.numbers[state], state)
    return found
