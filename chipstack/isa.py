"""Instructions: what a small machine does, one after another.

A machine has words of some bits, an accumulator, a carry, a place in its code, and memory. An instruction is a word
and a number; codes have four bits for the word above the number's bits.
"""

from chipstack.errors import CodeError, RunError

INSTRUCTIONS = ("halt", "set", "load", "store", "add", "sub", "and", "xor", "jump", "zero", "less", "out", "in", "half",
                "from", "to")
PLAIN = ("halt", "out", "in", "half")
JUMPS = ("jump", "zero", "less")
BITS_OF_WORD = 4
# What stands behind the code's end.
NOTHING = ("halt", 0)


class Size:
    """How many bits words have (2 to 8), and places in the code (2 to 8)."""

    def __init__(self, data, code):
        if not 2 <= data <= 8 or not 2 <= code <= 8:
            raise CodeError(f"there is no machine of {data} and {code} bits")
        self.data = data
        self.code = code

    def argument(self):
        """Return how many bits the number of an instruction has."""
        return max(self.data, self.code)

    def width(self):
        """Return how many bits an instruction has."""
        return BITS_OF_WORD + self.argument()


def check_instruction(row, size):
    """Raise CodeError for an unknown word, or a number that does not fit: 0 for words without one."""
    if len(row) != 2 or row[0] not in INSTRUCTIONS or not isinstance(row[1], int):
        raise CodeError(f"{row} is no instruction")
    bits = size.code if row[0] in JUMPS else size.data
    if row[0] in PLAIN:
        bits = 0
    if not 0 <= row[1] < 1 << bits:
        raise CodeError(f"{row[0]} has no number {row[1]}")


def encoded(row, size):
    """Return the code of an instruction; raise CodeError for none."""
    check_instruction(row, size)
    return INSTRUCTIONS.index(row[0]) << size.argument() | row[1]


def decoded(code, size):
    """Return the instruction of a code; raise CodeError for one that no instruction has."""
    if not 0 <= code < 1 << size.width():
        raise CodeError(f"{code} is no code")
    bits = size.argument()
    row = (INSTRUCTIONS[code >> bits], code & (1 << bits) - 1)
    check_instruction(row, size)
    return row


class Machine:
    """A size, code (instructions; "halt" behind them), accumulator, carry, place, memory, what comes and went out."""

    def __init__(self, size, code, coming=()):
        if len(code) > 1 << size.code:
            raise CodeError(f"{len(code)} instructions are too many")
        for row in code:
            check_instruction(row, size)
        self.size = size
        self.code = tuple((row[0], row[1]) for row in code)
        self.coming = list(coming)
        self.accumulator = 0
        self.carry = 0
        self.place = 0
        self.memory = [0] * (1 << size.data)
        self.sent = []
        self.halted = False

    def instruction(self):
        """Return the instruction at the place."""
        return self.code[self.place] if self.place < len(self.code) else NOTHING

    def step(self):
        """Carry out an instruction; raise RunError behind a halt. What comes in behind all that is there is 0."""
        if self.halted:
            raise RunError("the machine has halted")
        word, number = self.instruction()
        if word == "halt":
            self.halted = True
            return
        self.place = self.place_behind(word, number)
        if word in ("set", "load", "in", "from"):
            self.accumulator = self.taken(word, number)
        elif word == "store":
            self.memory[number] = self.accumulator
        elif word == "to":
            self.memory[self.memory[number]] = self.accumulator
        elif word == "out":
            self.sent.append(self.accumulator)
        elif word == "half":
            self.carry = self.accumulator & 1
            self.accumulator >>= 1
        elif word not in JUMPS:
            self.reckon(word, self.memory[number])

    def place_behind(self, word, number):
        """Return the place of what is carried out next."""
        if (word == "jump" or (word == "zero" and self.accumulator == 0) or (word == "less" and self.carry == 1)):
            return number
        # Behind the last place comes place 0.
        return (self.place + 1) & (1 << self.size.code) - 1

    def taken(self, word, number):
        """Return what an instruction brings into the accumulator."""
        if word == "set":
            return number
        if word == "load":
            return self.memory[number]
        if word == "from":
            return self.memory[self.memory[number]]
        coming = self.coming.pop(0) if self.coming else 0
        return coming & (1 << self.size.data) - 1

    def reckon(self, word, number):
        """Let the accumulator be what it and a number of memory give."""
        if word == "and":
            self.accumulator &= number
        elif word == "xor":
            self.accumulator ^= number
        else:
            total = self.accumulator + number if word == "add" else self.accumulator - number
            self.accumulator = total & (1 << self.size.data) - 1
            # A sum that is too large, and a difference below 0, are just those that do not fit.
            self.carry = 0 if total == self.accumulator else 1

    def run(self, most):
        """Carry out instructions until it halts, or so many; return whether it halted."""
        for _ in range(most):
            if self.halted:
                return True
            self.step()
        return self.halted

    def shown(self):
        """Return (accumulator, carry, place, memory, what went out, whether it halted)."""
        return (self.accumulator, self.carry, self.place, tuple(self.memory), tuple(self.sent), self.halted)
