"""Plans: circuits with names, whose expressions have widths that fit."""

from chipstack.errors import PlanError
from chipstack.plantext import PlanReader, expression_text, marks_of

MOST_WIDTH = 32
MOST_LINES = 400
MOST_PLANS = 20
COMPARISONS = ("==", "!=", "<")


class Plan:
    """A name and its lines in order.

    Lines are ("in", name, width), ("out", name, width), ("keep", name, width, first), ("let", name, e),
    ("use", part, plan, ports), ("next", name, e) and ("give", name, e); ports are (port, e) rows.
    """

    def __init__(self, name, lines):
        self.name = name
        self.lines = tuple(lines)

    def of(self, word):
        """Return the lines with a word, in order."""
        return [line for line in self.lines if line[0] == word]

    def ins(self):
        """Return (name, width) of what comes in, in order."""
        return tuple((line[1], line[2]) for line in self.of("in"))

    def gives(self):
        """Return (name, width) of what goes out, in order."""
        return tuple((line[1], line[2]) for line in self.of("out"))

    def plan_text(self):
        """Return the plan's text."""
        rows = ["  " + line_text(line) for line in self.lines]
        return "\n".join([f"plan {self.name}", *rows, "end", ""])


def line_text(line):
    """Return the text of a line."""
    word, name = line[0], line[1]
    if word in ("in", "out"):
        return f"{word} {name} {line[2]}"
    if word == "keep":
        return f"keep {name} {line[2]} = {line[3]}"
    if word == "use":
        ports = ", ".join([f"{port} = {expression_text(tree)}" for port, tree in line[3]])
        return f"use {name} of {line[2]} ({ports})"
    text = expression_text(line[2])
    if word == "let":
        return f"let {name} = {text}"
    return f"{name} <- {text}" if word == "next" else f"{name} = {text}"


def parse_plans(text):
    """Return a table of plans by name, each looked at with those ahead of it; raise PlanError for others."""
    reader = PlanReader(marks_of(text))
    found = {}
    while reader.here() != "":
        plan = read_plan(reader)
        if plan.name in found or len(found) >= MOST_PLANS:
            raise PlanError(f"plan {plan.name} is told twice, or is one too many")
        check_plan(plan, found)
        found[plan.name] = plan
    return found


def read_plan(reader):
    """Read a plan, from its name to its end."""
    reader.take("plan")
    name = reader.take_kind("name")
    reader.take_kind("end")
    lines = []
    while reader.here() != "end":
        lines.append(read_line(reader))
        reader.take_kind("end")
        if len(lines) > MOST_LINES:
            raise PlanError(f"plan {name} has too many lines")
    reader.take("end")
    reader.take_kind("end")
    return Plan(name, lines)


def read_line(reader):
    """Read a line within a plan, but for its end."""
    word = reader.here()
    if reader.here_is("name"):
        return read_told(reader)
    if word not in ("in", "out", "keep", "let", "use"):
        reader.fail()
    reader.take(word)
    name = reader.take_kind("name")
    if word == "let":
        reader.take("=")
        return ("let", name, reader.expression())
    if word == "use":
        return read_use(reader, name)
    width = reader.take_number()
    if word != "keep":
        return (word, name, width)
    reader.take("=")
    return ("keep", name, width, reader.take_number())


def read_told(reader):
    """Read a line that tells what is kept next, or what goes out."""
    name = reader.take_kind("name")
    if reader.here() == "<-":
        reader.take("<-")
        return ("next", name, reader.expression())
    reader.take("=")
    return ("give", name, reader.expression())


def read_use(reader, part):
    """Read what stands behind the name of a part: its plan and its ports."""
    reader.take("of")
    plan = reader.take_kind("name")
    reader.take("(")
    ports = []
    while reader.here() != ")":
        if ports:
            reader.take(",")
        port = reader.take_kind("name")
        reader.take("=")
        ports.append((port, reader.expression()))
    reader.take(")")
    return ("use", part, plan, tuple(ports))


class PlanCheck:
    """What the lines of a plan have told so far: names, the widths of those that can be read, of outs and of keeps."""

    def __init__(self, plan, plans):
        self.plans = plans
        self.names = {}
        self.widths = {}
        self.out_widths = dict(plan.gives())
        self.keep_widths = {}
        self.told = {}

    def look(self, line):
        """Look at a line; raise PlanError if it does not fit those ahead of it."""
        word = line[0]
        if word in ("next", "give"):
            self.look_at_told(word, line[1], line[2])
            return
        self.add_name(line[1])
        if word == "use":
            self.look_at_part(line)
        elif word == "let":
            self.widths[line[1]] = width_of(line[2], self.widths)
        else:
            self.look_at_bits(line)

    def add_name(self, name):
        """Take a name; raise PlanError if it is told twice."""
        if name in self.names:
            raise PlanError(f"{name} is told twice")
        self.names[name] = True

    def look_at_bits(self, line):
        """Look at the line of what comes in, goes out, or is kept."""
        word, name, width = line[0], line[1], line[2]
        check_width(width)
        if word == "keep":
            check_number(line[3], width)
            self.keep_widths[name] = width
        # What goes out cannot be read, so its width is not told to expressions.
        if word != "out":
            self.widths[name] = width

    def look_at_part(self, line):
        """Look at a part: its plan, its ports, and what it gives."""
        part, name, ports = line[1], line[2], line[3]
        if name not in self.plans:
            raise PlanError(f"{part} is of no plan told before")
        plan = self.plans[name]
        needed = dict(plan.ins())
        if sorted([port for port, tree in ports]) != sorted(needed):
            raise PlanError(f"{part} has not just the ports that {name} needs")
        for port, tree in ports:
            check_same(width_of(tree, self.widths), needed[port])
        for out, width in plan.gives():
            self.widths[part + "." + out] = width

    def look_at_told(self, word, name, tree):
        """Look at a line that tells what is kept next, or what goes out."""
        wanted = self.keep_widths if word == "next" else self.out_widths
        if name not in wanted or name in self.told:
            raise PlanError(f"{name} is not there, or is told twice")
        check_same(width_of(tree, self.widths), wanted[name])
        self.told[name] = True


def check_plan(plan, plans):
    """Raise PlanError for a plan that does not fit, with those told before."""
    found = PlanCheck(plan, plans)
    for line in plan.lines:
        found.look(line)
    if len(found.told) != len(found.out_widths) + len(found.keep_widths):
        raise PlanError(f"plan {plan.name} lacks what goes out, or what is kept next")


def check_width(width):
    """Raise PlanError for a width that is none."""
    if not 1 <= width <= MOST_WIDTH:
        raise PlanError(f"{width} is no width")


def check_number(value, width):
    """Raise PlanError for a number that does not fit its width."""
    if value >= two_to(width):
        raise PlanError(f"{value} does not fit {width} bits")


def check_same(one, other):
    """Raise PlanError for two widths that differ."""
    if one != other:
        raise PlanError(f"widths {one} and {other} do not fit each other")


def two_to(many):
    """Return 2 times itself so many times."""
    return 1 << many


def width_of(tree, widths):
    """Return the width of an expression; raise PlanError for unknown names and widths that do not fit."""
    word = tree[0]
    if word == "number":
        check_width(tree[2])
        check_number(tree[1], tree[2])
        return tree[2]
    if word == "name":
        if tree[1] not in widths:
            raise PlanError(f"{tree[1]} is not known here")
        return widths[tree[1]]
    if word == "not":
        return width_of(tree[1], widths)
    if word in ("all", "any"):
        width_of(tree[1], widths)
        return 1
    if word == "op":
        return operation_width(tree, widths)
    if word == "if":
        check_same(width_of(tree[1], widths), 1)
        return same_width(tree[2], tree[3], widths)
    return moved_width(tree, widths)


def operation_width(tree, widths):
    """Return the width of an operation of two sides."""
    width = same_width(tree[2], tree[3], widths)
    return 1 if tree[1] in COMPARISONS else width


def same_width(one, other, widths):
    """Return the width of two expressions; raise PlanError if they have two."""
    width = width_of(one, widths)
    check_same(width, width_of(other, widths))
    return width


def moved_width(tree, widths):
    """Return the width of a shift, a slice, a join, or what is made wide."""
    word = tree[0]
    if word == "join":
        width = sum(width_of(row, widths) for row in tree[1])
        check_width(width)
        return width
    if word == "shift":
        if tree[3] > MOST_WIDTH:
            raise PlanError(f"nothing is shifted by {tree[3]}")
        return width_of(tree[2], widths)
    inner = width_of(tree[1], widths)
    if word == "wide":
        check_width(tree[2])
        if inner > tree[2]:
            raise PlanError(f"{inner} bits are more than {tree[2]}")
        return tree[2]
    if not tree[3] <= tree[2] < inner:
        raise PlanError(f"{inner} bits have no bits from {tree[3]} to {tree[2]}")
    return tree[2] - tree[3] + 1
