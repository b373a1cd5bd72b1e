"""Building: plans as gates."""

from chipstack.errors import GateError, PlanError
from chipstack.gates import Netlist

MOST_PARTS = 200


class Builder:
    """Plans by name, and the netlist that is being built."""

    def __init__(self, plans):
        self.plans = plans
        self.netlist = Netlist()
        self.zero = self.netlist.add(("zero",))
        self.one = self.netlist.add(("one",))
        self.parts = 0

    def gate(self, word, *places):
        """Add a gate that reads places and return its place."""
        return self.netlist.add((word, *places))

    def expression(self, tree, table):
        """Return the places of an expression's bits, the lowest first."""
        many = len(self.netlist.gates)
        try:
            return self.tree(tree, table)
        except (GateError, PlanError):
            # What raises changes nothing: gates of the part that did fit go again.
            del self.netlist.gates[many:]
            raise

    def shifted(self, sign, rows, many):
        """Return a row shifted by so many places, zeros coming in."""
        zeros = [self.zero] * min(many, len(rows))
        if sign == "<<":
            return (zeros + list(rows))[:len(rows)]
        return list(rows)[many:] + zeros

    def tree(self, tree, table):
        """Return the places of an expression's bits; what does not fit stays as far as it was built."""
        word = tree[0]
        if word == "number":
            return [self.one if tree[1] >> bit & 1 else self.zero for bit in range(tree[2])]
        if word == "name":
            return self.named(tree[1], table)
        if word == "op":
            return self.operation(tree[1], self.tree(tree[2], table), self.tree(tree[3], table))
        if word == "if":
            return self.choice(tree, table)
        if word == "join":
            rows = [self.tree(part, table) for part in tree[1]]
            # The first part is the highest.
            return [place for row in reversed(rows) for place in row]
        if word == "shift":
            return self.shifted(tree[1], self.tree(tree[2], table), tree[3])
        rows = self.tree(tree[1], table)
        if word == "not":
            return [self.gate("not", place) for place in rows]
        if word == "slice":
            return rows[tree[3]:tree[2] + 1]
        if word == "wide":
            return rows + [self.zero] * (tree[2] - len(rows))
        return [self.put_together("and" if word == "all" else "or", rows)]

    def named(self, name, table):
        """Return the places of a name's bits; raise PlanError for an unknown one."""
        if name not in table:
            raise PlanError(f"{name} is not known here")
        return list(table[name])

    def choice(self, tree, table):
        """Return the places of an if's bits."""
        test = self.tree(tree[1], table)[0]
        ones = self.tree(tree[2], table)
        others = self.tree(tree[3], table)
        return [self.gate("pick", test, other, one) for one, other in zip(ones, others)]

    def operation(self, sign, ones, others):
        """Return the places of an operation's bits."""
        if sign == "+":
            return self.total(ones, others)
        if sign == "-":
            return self.rest(ones, others)
        if sign == "<":
            return [self.is_less(ones, others)]
        word = "and" if sign == "&" else "or" if sign == "|" else "xor"
        rows = [self.gate(word, one, other) for one, other in zip(ones, others)]
        if sign == "!=":
            return [self.put_together("or", rows)]
        if sign == "==":
            return [self.gate("not", self.put_together("or", rows))]
        return rows

    def total(self, ones, others):
        """Return the places of a sum's bits."""
        found = []
        carry = self.zero
        for one, other in zip(ones, others):
            unlike = self.gate("xor", one, other)
            found.append(self.gate("xor", unlike, carry))
            # Like bits are the next carry themselves; of unlike ones the carry goes on.
            carry = self.gate("pick", unlike, one, carry)
        return found

    def rest(self, ones, others):
        """Return the places of a difference's bits."""
        found = []
        borrow = self.zero
        for one, other in zip(ones, others):
            unlike = self.gate("xor", one, other)
            found.append(self.gate("xor", unlike, borrow))
            borrow = self.gate("pick", unlike, borrow, other)
        return found

    def is_less(self, ones, others):
        """Return the place of a bit that is 1 if one number is less than another: the highest unlike bits tell."""
        less = self.zero
        for one, other in zip(ones, others):
            less = self.gate("pick", self.gate("xor", one, other), less, other)
        return less

    def put_together(self, word, rows):
        """Return the place of a bit over all bits of a row, two by two, so that no way through it is long."""
        while len(rows) > 1:
            pairs = [self.gate(word, rows[at], rows[at + 1]) for at in range(0, len(rows) - 1, 2)]
            rows = pairs + rows[len(pairs) * 2:]
        return rows[0]

    def plan(self, name, ahead, table):
        """Build a plan by the places of what comes in; return those of what goes out, by name."""
        if name not in self.plans:
            raise PlanError(f"there is no plan {name}")
        self.parts += 1
        if self.parts > MOST_PARTS:
            raise GateError("there are too many parts")
        plan = self.plans[name]
        outs = {}
        for line in plan.lines:
            if line[0] == "keep":
                table[line[1]] = self.keep(ahead + line[1], line[2], line[3])
            elif line[0] == "let":
                table[line[1]] = self.tree(line[2], table)
            elif line[0] == "use":
                self.part(line, ahead, table)
            elif line[0] == "next":
                self.tell_next(table[line[1]], self.tree(line[2], table))
            elif line[0] == "give":
                outs[line[1]] = self.tree(line[2], table)
        return {out: outs[out] for out, width in plan.gives()}

    def keep(self, name, width, first):
        """Return the places of what is kept by a name."""
        return [self.netlist.add(("keep", name, bit, first >> bit & 1)) for bit in range(width)]

    def part(self, line, ahead, table):
        """Build a part of a plan, and put what it gives into a table."""
        name = line[1]
        ports = {port: self.tree(tree, table) for port, tree in line[3]}
        given = self.plan(line[2], ahead + name + ".", ports)
        for out in given:
            table[name + "." + out] = given[out]

    def tell_next(self, keeps, places):
        """Let keeps take places next."""
        for keep, place in zip(keeps, places):
            self.netlist.nexts[keep] = place

    def come_in(self, name, width):
        """Return the places of a number that comes in."""
        return [self.netlist.add(("in", name, bit)) for bit in range(width)]


def build(plans, name):
    """Return the netlist of a plan, those of the plans that it uses within it.

    Raise PlanError for an unknown plan, GateError for too many gates, or more than two hundred parts.
    """
    if name not in plans:
        raise PlanError(f"there is no plan {name}")
    builder = Builder(plans)
    table = {row: builder.come_in(row, width) for row, width in plans[name].ins()}
    builder.netlist.outs = builder.plan(name, "", table)
    return builder.netlist
