"""A reckoning of plans with whole numbers, and plans that are drawn: the tests hold the program against these."""

import random

WORDS = ("|", "^", "&", "+", "-")
COMPARISONS = ("==", "!=", "<")


def number_of(tree, known):
    """Return (number, width) of an expression; known are such pairs by name."""
    kind = tree[0]
    if kind == "number":
        return tree[1], tree[2]
    if kind == "name":
        return known[tree[1]]
    if kind == "op":
        return operation(tree[1], number_of(tree[2], known), number_of(tree[3], known))
    if kind == "if":
        return number_of(tree[2] if number_of(tree[1], known)[0] else tree[3], known)
    if kind == "shift":
        value, width = number_of(tree[2], known)
        moved = value << tree[3] if tree[1] == "<<" else value >> tree[3]
        return moved % 2 ** width, width
    if kind == "join":
        total, size = 0, 0
        for value, width in [number_of(part, known) for part in tree[1]]:
            total, size = total * 2 ** width + value, size + width
        return total, size
    value, width = number_of(tree[1], known)
    if kind == "not":
        return 2 ** width - 1 - value, width
    if kind == "slice":
        return value // 2 ** tree[3] % 2 ** (tree[2] - tree[3] + 1), tree[2] - tree[3] + 1
    if kind == "wide":
        return value, tree[2]
    if kind == "all":
        return int(value == 2 ** width - 1), 1
    assert kind == "any"
    return int(value > 0), 1


def operation(sign, one, other):
    """Return (number, width) of an operation."""
    a, width = one
    b = other[0]
    assert width == other[1]
    told = {"|": a | b, "^": a ^ b, "&": a & b, "+": a + b, "-": a - b, "==": int(a == b), "!=": int(a != b),
            "<": int(a < b)}
    return told[sign] % 2 ** width, 1 if sign in COMPARISONS else width


class Reckoning:
    """A plan that is reckoned beat by beat, with what it keeps and the parts that it has."""

    def __init__(self, plans, name):
        self.plan = plans[name]
        self.state = {line[1]: (line[3], line[2]) for line in self.plan.lines if line[0] == "keep"}
        self.parts = {line[1]: Reckoning(plans, line[2]) for line in self.plan.lines if line[0] == "use"}
        self.after = {}

    def given(self, ins):
        """Return what goes out by what comes in, and find what is kept next."""
        known = dict(self.state)
        self.after = dict(self.state)
        outs = {}
        for line in self.plan.lines:
            if line[0] == "in":
                known[line[1]] = (ins[line[1]], line[2])
            elif line[0] == "let":
                known[line[1]] = number_of(line[2], known)
            elif line[0] == "use":
                self.use(line, known)
            elif line[0] == "next":
                self.after[line[1]] = number_of(line[2], known)
            elif line[0] == "give":
                outs[line[1]] = number_of(line[2], known)[0]
        return outs

    def use(self, line, known):
        """Reckon a part."""
        part = self.parts[line[1]]
        given = part.given({port: number_of(tree, known)[0] for port, tree in line[3]})
        for out, width in part.plan.gives():
            known[line[1] + "." + out] = (given[out], width)

    def keep(self):
        """Keep what comes next, in parts too."""
        self.state = self.after
        for part in self.parts.values():
            part.keep()

    def step(self, ins):
        """Return what goes out, and keep what comes next."""
        outs = self.given(ins)
        self.keep()
        return outs

    def kept(self, ahead=""):
        """Return what is kept by name, parts' names ahead."""
        found = {ahead + name: pair[0] for name, pair in self.state.items()}
        for name, part in self.parts.items():
            found.update(part.kept(ahead + name + "."))
        return found


class Drawing:
    """Plans that are drawn by a seed."""

    def __init__(self, seed, widest=9):
        self.random = random.Random(seed)
        self.widest = widest
        self.known = {}

    def width(self):
        """Draw a width."""
        return self.random.randint(1, self.widest)

    def operand(self, width):
        """Draw a number or a name of a width."""
        names = [name for name in self.known if self.known[name] == width]
        if names and self.random.random() < 0.85:
            return ("name", self.random.choice(names))
        return ("number", self.random.choice([0, 2 ** width - 1, self.random.randrange(2 ** width)]), width)

    def tree(self, width, deep):
        """Draw an expression of a width."""
        if deep == 0:
            return self.operand(width)
        kind = self.random.choice(["name", "op", "op", "op", "not", "if", "shift", "slice", "join", "wide", "bit"])
        if kind == "op":
            return ("op", self.random.choice(WORDS), self.tree(width, deep - 1), self.tree(width, deep - 1))
        if kind == "not":
            return ("not", self.tree(width, deep - 1))
        if kind == "if":
            return ("if", self.tree(1, deep - 1), self.tree(width, deep - 1), self.tree(width, deep - 1))
        if kind == "shift":
            many = self.random.choice([0, 1, 2, width, width + 1, 32])
            return ("shift", self.random.choice(["<<", ">>"]), self.tree(width, deep - 1), many)
        if kind == "slice":
            inner = self.random.randint(width, self.widest + 3)
            low = self.random.randint(0, inner - width)
            return ("slice", self.tree(inner, deep - 1), low + width - 1, low)
        if kind == "join" and width > 1:
            first = self.random.randint(1, width - 1)
            return ("join", (self.tree(first, deep - 1), self.tree(width - first, deep - 1)))
        if kind == "wide":
            return ("wide", self.tree(self.random.randint(1, width), deep - 1), width)
        if kind == "bit" and width == 1:
            return self.bit(deep)
        return self.operand(width)

    def bit(self, deep):
        """Draw an expression of one bit that comes from wider ones."""
        width = self.width()
        word = self.random.choice([*COMPARISONS, "all", "any"])
        if word in COMPARISONS:
            return ("op", word, self.tree(width, deep - 1), self.tree(width, deep - 1))
        return (word, self.tree(width, deep - 1))

    def plan_lines(self, plans):
        """Draw the lines of a plan that uses some of those told before."""
        self.known = {}
        lines, keeps = [], {}
        for at in range(self.random.randint(1, 3)):
            self.known[f"i{at}"] = self.width()
            lines.append(("in", f"i{at}", self.known[f"i{at}"]))
        for at in range(self.random.randint(0, 3)):
            width = self.width()
            self.known[f"k{at}"] = keeps[f"k{at}"] = width
            lines.append(("keep", f"k{at}", width, self.random.randrange(2 ** width)))
        for at, name in enumerate(self.random.sample(sorted(plans), min(len(plans), 2))):
            ports = tuple((port, self.tree(width, 2)) for port, width in plans[name].ins())
            lines.append(("use", f"p{at}", name, ports))
            for out, width in plans[name].gives():
                self.known[f"p{at}.{out}"] = width
        for at in range(self.random.randint(0, 3)):
            width = self.width()
            lines.append(("let", f"l{at}", self.tree(width, 3)))
            self.known[f"l{at}"] = width
        for name in keeps:
            lines.append(("next", name, self.tree(keeps[name], 3)))
        for at in range(self.random.randint(1, 3)):
            width = self.width()
            lines.extend([("out", f"o{at}", width), ("give", f"o{at}", self.tree(width, 3))])
        return lines

    def ins_for(self, plan):
        """Draw what comes in."""
        return {name: self.random.randrange(2 ** width) for name, width in plan.ins()}


def drawn_plans(seed, many=3):
    """Return plans that are drawn, by name; each may use those ahead of it."""
    from chipstack.plans import Plan
    drawing = Drawing(seed)
    plans = {}
    for at in range(many):
        plans[f"plan{at}"] = Plan(f"plan{at}", drawing.plan_lines(plans))
    return drawing, plans
