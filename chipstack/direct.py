"""Direct: programs as circuits of their own, without a machine: a state for each step, a keep for each number."""

from chipstack.core import first_of
from chipstack.errors import CodeError
from chipstack.plans import MOST_LINES
from chipstack.programs import COMPARING_SIGNS
from chipstack.units import plan_of

MOST_STATES = 256
MOST_ROW = 16
# So many choices, or states, stand in a line: a plan's line has an end.
MOST_IN_LINE = 8
# So many bits of a place are looked at in a line.
BITS_IN_LINE = 3


class Maker:
    """A program, how many bits numbers have, its steps, what is let, and the keeps for what comes in.

    Steps are (deed, state that follows, or (condition, state if it is true, state if not)); deeds are None,
    ("put", name, text), ("put_at", name, text, text), ("out", text) or ("in", name).
    """

    def __init__(self, program, data):
        self.program = program
        self.data = data
        self.steps = []
        self.lets = []
        # Names in plans: those of programs may be words of plans.
        self.names = {name: f"n{at}" for at, name in enumerate(sorted(program.numbers))}
        self.row_names = {name: f"r{at}" for at, name in enumerate(sorted(program.rows))}
        # Of what comes in, how many numbers the statement at hand keeps, and the most that one does.
        self.kept_now = 0
        self.kept_most = 0

    def add(self, deed, following=None):
        """Add a step and return its number; what follows is the next one if it is not told."""
        if len(self.steps) >= MOST_STATES:
            raise CodeError("a program takes too many steps")
        number = len(self.steps)
        self.steps.append((deed, number + 1 if following is None else following))
        return number

    def let(self, text):
        """Return a name that is let be what a text tells."""
        name = f"t{len(self.lets)}"
        self.lets.append(f"let {name} = {text}")
        return name

    def name_of(self, name, table):
        """Return the name in the plan; raise CodeError for an unknown one."""
        if name not in table:
            raise CodeError(f"{name} is unknown")
        return table[name]

    def block(self, body):
        """Add the steps of statements."""
        for row in body:
            self.statement(row)

    def statement(self, row):
        """Add the steps of a statement: first those that take what comes in within it."""
        word = row[0]
        top = len(self.steps)
        self.kept_now = 0
        if word == "put":
            self.add(("put", self.name_of(row[1], self.names), self.value(row[2])))
        elif word == "put_at":
            name = self.name_of(row[1], self.row_names)
            place = self.value(row[2])
            self.add(("put_at", name, place, self.value(row[3])))
        elif word == "out":
            self.add(("out", self.value(row[1])))
        elif word == "if":
            self.choice(self.value(row[1]), row[2], row[3])
        else:
            self.loop(top, self.value(row[1]), row[2])

    def choice(self, test, body, other):
        """Add the steps of an if behind its condition."""
        fork = self.add(None)
        self.block(body)
        behind = len(self.steps)
        if other:
            over = self.add(None)
            behind = over + 1
            self.block(other)
            self.steps[over] = (None, len(self.steps))
        self.steps[fork] = (None, (f"any({test})", fork + 1, behind))

    def loop(self, top, test, body):
        """Add the steps of a while behind its condition; what comes in within that is taken again each time."""
        fork = self.add(None)
        self.block(body)
        self.add(None, top)
        self.steps[fork] = (None, (f"any({test})", fork + 1, len(self.steps)))

    def value(self, tree):
        """Return a short text of an expression's value; what comes in within it is taken in steps ahead."""
        word = tree[0]
        if word == "number":
            return f"{tree[1] & (1 << self.data) - 1}:{self.data}"
        if word == "name":
            return self.name_of(tree[1], self.names)
        if word == "half":
            return self.let(f"{self.value(tree[1])} >> 1")
        if word == "at":
            return self.row_value(tree[1], self.value(tree[2]))
        if word == "in":
            return self.take()
        one = self.value(tree[2])
        text = f"{one} {tree[1]} {self.value(tree[3])}"
        return self.let(f"wide({text}, {self.data})" if tree[1] in COMPARING_SIGNS else text)

    def take(self):
        """Return the name of the keep for a number that is taken in a step of its own."""
        name = f"come{self.kept_now}"
        self.kept_now += 1
        self.kept_most = max(self.kept_most, self.kept_now)
        self.add(("in", name))
        return name

    def row_value(self, name, place):
        """Return a name for a row's number at a place; a place beyond the row is its last one."""
        row = self.name_of(name, self.row_names)
        last = self.program.rows[name] - 1
        if last == 0:
            return f"{row}x0"
        spot = self.let(f"if {place} < {last}:{self.data} then {place} else {last}:{self.data}")
        bits = last.bit_length()
        texts = [f"{row}x{min(at, last)}" for at in range(1 << bits)]
        for bit in range(bits):
            texts = [f"(if {spot}[{bit}] then {texts[at + 1]} else {texts[at]})" for at in range(0, len(texts), 2)]
            if len(texts) > 1 and bit == BITS_IN_LINE - 1:
                texts = [self.let(text) for text in texts]
        return self.let(texts[0])

    def one_of(self, rows, last):
        """Return a text of what stands beside the first condition that holds, else of the last one."""
        while len(rows) > MOST_IN_LINE:
            last = self.let(first_of(rows[-MOST_IN_LINE:], last))
            rows = rows[:-MOST_IN_LINE]
        return first_of(rows, last)

    def steps_of(self, word):
        """Return (state, deed) of the steps whose deed has a word."""
        return [(at, step[0]) for at, step in enumerate(self.steps) if step[0] is not None and step[0][0] == word]

    def bits(self):
        """Return how many bits tell a state."""
        return max(1, (len(self.steps) - 1).bit_length())

    def is_at(self, state):
        """Return a condition that holds in a state."""
        return f"state == {state}:{self.bits()}"

    def is_in(self, rows):
        """Return a condition that holds in the states of (state, deed) rows."""
        texts = [self.is_at(state) for state, deed in rows]
        while len(texts) > MOST_IN_LINE:
            texts = [self.let(" | ".join(texts[:MOST_IN_LINE])), *texts[MOST_IN_LINE:]]
        return " | ".join(texts) if texts else "0:1"

    def head_lines(self):
        """Return the lines of what comes in, goes out and is kept."""
        data = self.data
        lines = [f"in come {data}", f"out value {data}", "out send 1", "out take 1", "out stop 1"]
        lines.append(f"keep state {self.bits()} = 0")
        for name in self.names:
            number = self.program.numbers[name] & (1 << data) - 1
            lines.append(f"keep {self.names[name]} {data} = {number}")
        for name in self.row_names:
            lines.extend([f"keep {self.row_names[name]}x{at} {data} = 0" for at in range(self.program.rows[name])])
        lines.extend([f"keep come{at} {data} = 0" for at in range(self.kept_most)])
        return lines

    def end_lines(self):
        """Return the lines of what is kept next, and goes out; what they need is let."""
        lines = [self.state_line()]
        for name in self.names.values():
            rows = [(self.is_at(at), deed[2]) for at, deed in self.steps_of("put") if deed[1] == name]
            lines.append(f"{name} <- {self.one_of(rows, name)}")
        for name in self.row_names:
            lines.extend(self.row_lines(self.row_names[name], self.program.rows[name]))
        for number in range(self.kept_most):
            name = f"come{number}"
            rows = [row for row in self.steps_of("in") if row[1][1] == name]
            lines.append(f"{name} <- if {self.is_in(rows)} then come else {name}")
        sends, takes = self.steps_of("out"), self.steps_of("in")
        value = self.one_of([(self.is_at(at), deed[1]) for at, deed in sends], f"0:{self.data}")
        lines.extend([f"value = {value}", f"send = {self.is_in(sends)}", f"take = {self.is_in(takes)}"])
        lines.append(f"stop = {self.is_at(len(self.steps) - 1)}")
        return lines

    def state_line(self):
        """Return the line of the state that follows: the next one, but where a step tells another."""
        bits = self.bits()
        rows = []
        for at, (deed, following) in enumerate(self.steps):
            if isinstance(following, tuple):
                test, one, other = following
                rows.append((self.is_at(at), self.let(f"if {test} then {one}:{bits} else {other}:{bits}")))
            elif following != at + 1:
                rows.append((self.is_at(at), f"{following}:{bits}"))
        return "state <- " + self.one_of(rows, f"state + 1:{bits}")

    def row_lines(self, row, many):
        """Return the lines of what a row keeps next."""
        puts = [(at, deed) for at, deed in self.steps_of("put_at") if deed[1] == row]
        if puts == []:
            return [f"{row}x{at} <- {row}x{at}" for at in range(many)]
        data = self.data
        test = self.let(self.is_in(puts))
        # In other states the place and the number count for nothing, so those of the last step may stand there.
        place = self.let(self.one_of([(self.is_at(at), deed[2]) for at, deed in puts[:-1]], puts[-1][1][2]))
        number = self.let(self.one_of([(self.is_at(at), deed[3]) for at, deed in puts[:-1]], puts[-1][1][3]))
        lines = [f"{row}x{at} <- if {test} & {place} == {at}:{data} then {number} else {row}x{at}"
                 for at in range(many - 1)]
        last = many - 1
        lines.append(f"{row}x{last} <- if {test} & ~({place} < {last}:{data}) then {number} else {row}x{last}")
        return lines


def direct_text(program, data):
    """Return the plan "direct" of a program for numbers of 2 to 8 bits: come comes in; value, send, take, stop go out.

    It sends in the same order what the program sends out, and takes what comes in in the same order. Raise CodeError
    for too many steps, rows of nothing, and sizes that are none.
    """
    if not 2 <= data <= 8 or any(not 0 < many <= min(1 << data, MOST_ROW) for many in program.rows.values()):
        raise CodeError("numbers, or rows, have a size that is none")
    maker = Maker(program, data)
    maker.block(program.body)
    # Behind the last statement it stands still.
    maker.add(None, len(maker.steps))
    ends = maker.end_lines()
    head = maker.head_lines()
    if len(head) + len(maker.lets) + len(ends) > MOST_LINES:
        raise CodeError("a program is too large")
    return plan_of("direct", [*head, *maker.lets, *ends])


def run_direct(circuit, data, coming, most):
    """Return (what a direct circuit sends, whether it stops) with numbers coming in, 0 behind them, in some beats."""
    sent = []
    taken = 0
    for _ in range(most):
        come = coming[taken] if taken < len(coming) else 0
        outs = circuit.step({"come": come & (1 << data) - 1})
        if outs["send"]:
            sent.append(outs["value"])
        if outs["take"]:
            taken += 1
        if outs["stop"]:
            return (tuple(sent), True)
    return (tuple(sent), False)
