"""The core: a plan of the machine that carries out instructions, and a board with its code and memory."""

from chipstack.errors import CodeError, RunError
from chipstack.isa import BITS_OF_WORD, INSTRUCTIONS, encoded


def core_text(size):
    """Return the text of the plan of a machine of a size."""
    lines = ["plan core"]
    lines.extend(["  " + line for line in head_lines(size)])
    lines.extend(["  " + line for line in let_lines(size)])
    lines.extend(["  " + line for line in next_lines(size)])
    lines.extend(["  " + line for line in give_lines(is_word("halt"))])
    return "\n".join([*lines, "end", ""])


def head_lines(size):
    """Return the lines of what comes in, goes out and is kept."""
    data, code = size.data, size.code
    return [f"in code {size.width()}", f"in data {data}", f"in come {data}", f"out at {code}", f"out where {data}",
            "out write 1", f"out value {data}", "out send 1", "out take 1", "out stop 1", f"keep place {code} = 0",
            f"keep acc {data} = 0", "keep carry 1 = 0", "keep phase 1 = 0", f"keep aim {data} = 0"]


def is_word(word):
    """Return an expression for whether an instruction has a word."""
    return f"word == {INSTRUCTIONS.index(word)}:{BITS_OF_WORD}"


def let_lines(size, source="code"):
    """Return the lines of what an instruction is, and of sums and differences with a bit for the carry above.

    source is the name of the bits that are the instruction's code.
    """
    data, code = size.data, size.code
    return [f"let word = {source}[{size.width() - 1}:{size.argument()}]", f"let number = {source}[{data - 1}:0]",
            f"let target = {source}[{code - 1}:0]", f"let far = {is_word('from')} | {is_word('to')}",
            "let first = far & ~phase", f"let total = wide(acc, {data + 1}) + wide(data, {data + 1})",
            f"let rest = wide(acc, {data + 1}) - wide(data, {data + 1})",
            f"let jumps = {is_word('jump')} | {is_word('zero')} & ~any(acc) | {is_word('less')} & carry"]


def next_lines(size):
    """Return the lines of what is kept next."""
    place = first_of([("first | " + is_word("halt"), "place"), ("jumps", "target")], f"place + 1:{size.code}")
    return [f"place <- {place}", *reckoned_lines(size)]


def reckoned_lines(size):
    """Return the lines of what is kept next but for the place: what an instruction reckons, and between two beats."""
    data = size.data
    top = f"{data - 1}:0"
    adds, takes, halves = is_word("add"), is_word("sub"), is_word("half")
    acc = first_of([(is_word("set"), "number"), (is_word("load"), "data"), (is_word("from") + " & phase", "data"),
                    (adds, f"total[{top}]"), (takes, f"rest[{top}]"), (is_word("and"), "acc & data"),
                    (is_word("xor"), "acc ^ data"), (is_word("in"), "come"), (halves, "acc >> 1")], "acc")
    carry = first_of([(adds, f"total[{data}]"), (takes, f"rest[{data}]"), (halves, "acc[0]")], "carry")
    return [f"acc <- {acc}", f"carry <- {carry}", "phase <- first", "aim <- if first then data else aim"]


def first_of(rows, last):
    """Return an expression for what stands beside the first condition that holds, else for the last one."""
    return "".join([f"if {test} then {told} else " for test, told in rows]) + last


def give_lines(stop):
    """Return the lines of what goes out; stop is the condition by which the machine halts."""
    return ["at = place", "where = if phase then aim else number",
            f"write = {is_word('store')} | {is_word('to')} & phase", "value = acc", f"send = {is_word('out')}",
            f"take = {is_word('in')}", f"stop = {stop}"]


class Board:
    """A run of the core's circuit, the codes, memory, what comes in, and what went out.

    Any circuit does that has step and given over tables of numbers, with the core's names.
    """

    def __init__(self, circuit, size, code, coming=()):
        if len(code) > 1 << size.code:
            raise CodeError(f"{len(code)} instructions are too many")
        self.circuit = circuit
        self.size = size
        self.codes = [encoded(row, size) for row in code]
        self.coming = list(coming)
        self.memory = [0] * (1 << size.data)
        self.sent = []
        self.halted = False
        self.beats = 0

    def code_at(self, place):
        """Return the code at a place, 0 behind the last one."""
        return self.codes[place] if place < len(self.codes) else 0

    def beat(self):
        """Let one beat of the clock pass: the circuit is asked where it looks first; raise RunError behind a halt."""
        if self.halted:
            raise RunError("the machine has halted")
        coming = self.coming[0] if self.coming else 0
        ins = {"code": 0, "data": 0, "come": coming & (1 << self.size.data) - 1}
        ins["code"] = self.code_at(self.circuit.given(ins)["at"])
        ins["data"] = self.memory[self.circuit.given(ins)["where"]]
        outs = self.circuit.step(ins)
        self.beats += 1
        if outs["write"]:
            self.memory[outs["where"]] = outs["value"]
        if outs["send"]:
            self.sent.append(outs["value"])
        if outs["take"] and self.coming:
            self.coming.pop(0)
        self.halted = outs["stop"] == 1

    def run(self, most):
        """Let beats pass until it halts, or so many; return whether it halted."""
        for _ in range(most):
            if self.halted:
                return True
            self.beat()
        return self.halted

    def shown(self):
        """Return (memory, what went out, whether it halted)."""
        return (tuple(self.memory), tuple(self.sent), self.halted)
