"""A machine of the tests' own, codes and programs that are drawn, and a reckoning of programs."""

import random

WORDS = "halt set load store add sub and xor jump zero less out in half from to".split()
GOING = ("jump", "zero", "less")
ALONE = ("halt", "out", "in", "half")


class OwnMachine:
    """A machine whose instructions are told one by one in a table of small functions."""

    def __init__(self, data, code_bits, code, coming=()):
        self.data, self.places, self.code = 2 ** data, 2 ** code_bits, list(code)
        self.coming = list(coming)
        self.acc = self.carry = self.at = 0
        self.memory = {place: 0 for place in range(self.data)}
        self.sent = []
        self.halted = False

    def step(self):
        """Carry out an instruction."""
        word, number = self.code[self.at] if self.at < len(self.code) else ("halt", 0)
        if word == "halt":
            self.halted = True
            return
        self.at = (self.at + 1) % self.places
        getattr(self, "do_" + word)(number)

    def do_set(self, number):
        self.acc = number

    def do_load(self, number):
        self.acc = self.memory[number]

    def do_store(self, number):
        self.memory[number] = self.acc

    def do_add(self, number):
        self.carry, self.acc = divmod(self.acc + self.memory[number], self.data)

    def do_sub(self, number):
        more, self.acc = divmod(self.acc - self.memory[number], self.data)
        self.carry = -more

    def do_and(self, number):
        self.acc = self.acc & self.memory[number]

    def do_xor(self, number):
        self.acc = self.acc ^ self.memory[number]

    def do_jump(self, number):
        self.at = number

    def do_zero(self, number):
        if self.acc == 0:
            self.at = number

    def do_less(self, number):
        if self.carry == 1:
            self.at = number

    def do_out(self, number):
        self.sent.append(self.acc)

    def do_in(self, number):
        self.acc = self.coming.pop(0) % self.data if self.coming else 0

    def do_half(self, number):
        self.acc, self.carry = divmod(self.acc, 2)

    def do_from(self, number):
        self.acc = self.memory[self.memory[number]]

    def do_to(self, number):
        self.memory[self.memory[number]] = self.acc

    def shown(self):
        """Return what the package's machine shows."""
        return (self.acc, self.carry, self.at, tuple(self.memory.values()), tuple(self.sent), self.halted)


def drawn_code(draw, data, code_bits, many, halts=0.03):
    """Return so many instructions that are drawn."""
    found = []
    for _ in range(many):
        word = "halt" if draw.random() < halts else draw.choice(WORDS[1:])
        if word in ALONE:
            found.append((word, 0))
        elif word in GOING:
            found.append((word, draw.randrange(2 ** code_bits)))
        else:
            found.append((word, draw.choice([0, 1, 2 ** data - 1, draw.randrange(2 ** data)])))
    return tuple(found)


class Meaning:
    """What a program means: its memory, what comes in, and what it sends out, statement by statement."""

    def __init__(self, program, data, coming=()):
        numbers, rows, self.body = program.shown()
        self.modulus, self.coming, self.sent = 2 ** data, list(coming), []
        self.places, self.memory, self.named = {}, [0] * self.modulus, 0
        for name, first in numbers:
            self.places[name] = self.named
            self.memory[self.named] = first % self.modulus
            self.named += 1
        for name, many in rows:
            self.places[name] = self.named
            self.named += many

    def value(self, tree):
        """Return the value of an expression."""
        kind = tree[0]
        if kind == "number":
            return tree[1] % self.modulus
        if kind == "name":
            return self.memory[self.places[tree[1]]]
        if kind == "at":
            return self.memory[(self.places[tree[1]] + self.value(tree[2])) % self.modulus]
        if kind == "half":
            return self.value(tree[1]) // 2
        if kind == "in":
            return self.coming.pop(0) % self.modulus if self.coming else 0
        one = self.value(tree[2])
        other = self.value(tree[3])
        told = {"+": one + other, "-": one - other, "&": one & other, "^": one ^ other, "==": one == other,
                "!=": one != other, "<": one < other}
        return int(told[tree[1]]) % self.modulus

    def run(self, body=None):
        """Carry out statements."""
        for row in self.body if body is None else body:
            if row[0] == "put":
                self.memory[self.places[row[1]]] = self.value(row[2])
            elif row[0] == "put_at":
                place = (self.places[row[1]] + self.value(row[2])) % self.modulus
                self.memory[place] = self.value(row[3])
            elif row[0] == "out":
                self.sent.append(self.value(row[1]))
            elif row[0] == "if":
                self.run(row[2] if self.value(row[1]) != 0 else row[3])
            else:
                while self.value(row[1]) != 0:
                    self.run(row[2])
        return self


class ProgramDrawing:
    """Programs that are drawn: loops count a number of their own down, places of rows stay among what has names."""

    def __init__(self, seed, data):
        self.random, self.data = random.Random(seed), data
        self.rows = {} if data == 2 else {"row": 4, "s9": 2}
        names = ["a", "b"] if data == 2 else ["a", "b", "c1", "zz"]
        self.numbers = {name: self.random.choice([0, 1, 999, self.random.randrange(300)]) for name in names}
        self.loops = [] if data == 2 else ["n0", "n1"]
        self.numbers.update((name, 0) for name in self.loops)

    def tree(self, deep):
        """Draw an expression."""
        if deep == 0 or self.random.random() < 0.15:
            kind = self.random.choice(["number", "name", "name", "in"])
            if kind == "number":
                return ("number", self.random.choice([0, 1, 2, 255, 999]))
            return ("in",) if kind == "in" else ("name", self.random.choice(sorted(self.numbers)))
        kind = self.random.choice(["op", "op", "op", "half", "at"])
        if kind == "half":
            return ("half", self.tree(deep - 1))
        if kind == "at" and self.rows:
            return ("at", self.random.choice(sorted(self.rows)), self.place(deep - 1))
        sign = self.random.choice(["+", "-", "&", "^", "==", "!=", "<"])
        return ("op", sign, self.tree(deep - 1), self.tree(deep - 1))

    def place(self, deep):
        """Draw a place of a row: 0 to 2 times, behind the row's end now and then, but at what has a name."""
        return ("op", "&", self.tree(deep), ("number", 1))

    def statement(self, deep):
        """Draw a statement."""
        kinds = ["put", "put", "out", "put_at"] + (["if", "while"] if deep else [])
        kind = self.random.choice(kinds)
        if kind == "put_at" and self.rows:
            return ("put_at", self.random.choice(sorted(self.rows)), self.place(1), self.tree(2))
        if kind == "out":
            return ("out", self.tree(2))
        if kind == "if":
            other = self.block(deep - 1) if self.random.random() < 0.6 else ()
            return ("if", self.tree(2), self.block(deep - 1), other)
        if kind == "while" and len(self.loops) >= deep:
            name = self.loops[deep - 1]
            less = ("put", name, ("op", "-", ("name", name), ("number", 1)))
            return ("while", ("name", name), (*self.block(deep - 1), less))
        names = [name for name in sorted(self.numbers) if name not in self.loops]
        return ("put", self.random.choice(names), self.tree(2))

    def block(self, deep):
        """Draw statements."""
        return tuple(self.statement(deep) for _ in range(self.random.randint(1, 2)))

    def program(self, many=4):
        """Draw a program."""
        from chipstack.programs import Program
        body = []
        for _ in range(many):
            for name in self.loops:
                body.append(("put", name, ("number", self.random.randint(0, 3))))
            body.append(self.statement(2 if self.loops else 1))
        return Program(self.numbers, self.rows, body)

    def coming(self):
        """Draw what comes in."""
        return [self.random.randrange(2 ** self.data + 40) for _ in range(self.random.randint(0, 12))]


def nodes_in(program):
    """Count statements and expressions, those within each other too."""
    def of_tree(tree):
        return 1 + sum(of_tree(part) for part in tree if isinstance(part, tuple))

    def of_body(body):
        found = 0
        for row in body:
            found += 1
            for part in row[1:]:
                if isinstance(part, tuple):
                    found += of_body(part) if part == () or isinstance(part[0], tuple) else of_tree(part)
        return found

    return of_body(program.body)
