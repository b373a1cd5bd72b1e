"""Compiling: programs as instructions."""

from chipstack.errors import CodeError
from chipstack.isa import JUMPS
from chipstack.programs import COMPARING_SIGNS

# The instructions of operations that read memory; a difference and what is less are reckoned by "sub".
WORDS_OF_SIGNS = {"+": "add", "&": "and", "^": "xor", "==": "xor", "!=": "xor"}


class Compiler:
    """A size, the place in memory of each name, the first free place, the deepest one in use, code with places open.

    Jumps to places that are not known yet have a label as number, a tuple; labels have places.
    """

    def __init__(self, size, program):
        self.size = size
        self.places = {}
        self.code = []
        self.free = 0
        self.deepest = 0
        self.labels = {}
        self.many = 0
        for name in sorted(program.numbers):
            self.take_places(name, 1)
        for name in sorted(program.rows):
            self.take_places(name, program.rows[name])

    def take_places(self, name, many):
        """Let a name stand for the next free places."""
        self.places[name] = self.free
        self.take_free(many)

    def take_free(self, many=1):
        """Take free places and return the first one; raise CodeError if memory has no more."""
        place = self.free
        if place + many > 1 << self.size.data:
            raise CodeError("memory is too small")
        self.free = place + many
        self.deepest = max(self.deepest, self.free)
        return place

    def place_of(self, name):
        """Return the place of a name; raise CodeError for an unknown one."""
        if name not in self.places:
            raise CodeError(f"{name} is unknown")
        return self.places[name]

    def add(self, word, number=0):
        """Add an instruction."""
        self.code.append((word, number))

    def new_label(self, word):
        """Return a label that stands for no place yet."""
        self.many += 1
        return (word, self.many)

    def here(self, label):
        """Let a label stand for the place behind the code so far."""
        self.labels[label] = len(self.code)

    def expression(self, tree):
        """Let the accumulator be an expression's value."""
        many, free, deepest = len(self.code), self.free, self.deepest
        labels = {label: self.labels[label] for label in self.labels}
        try:
            self.value(tree)
        except CodeError:
            # What raises changes nothing: the code that did fit goes again.
            del self.code[many:]
            self.free = free
            self.deepest = deepest
            self.labels = labels
            raise

    def value(self, tree):
        """Let the accumulator be an expression's value; what does not fit stays as far as it was told."""
        word = tree[0]
        if word == "number":
            self.add("set", tree[1] & (1 << self.size.data) - 1)
        elif word == "name":
            self.add("load", self.place_of(tree[1]))
        elif word == "half":
            self.value(tree[1])
            self.add("half")
        elif word == "at":
            place = self.row_place(tree[1], tree[2])
            self.add("from", place)
            self.free = place
        elif word == "op":
            self.operation(tree[1], tree[2], tree[3])
        else:
            self.add("in")

    def row_place(self, name, tree):
        """Reckon the place in memory of a row's number; return the free place that is taken to hold it."""
        first = self.place_of(name)
        self.value(tree)
        place = self.take_free()
        self.add("store", place)
        if first > 0:
            self.add("set", first)
            self.add("add", place)
            self.add("store", place)
        return place

    def operation(self, sign, one, other):
        """Let the accumulator be the value of an operation."""
        self.value(one)
        place = self.take_free()
        self.add("store", place)
        self.value(other)
        if sign in ("-", "<"):
            # The right side is there last, but it is the one to be taken away.
            second = self.take_free()
            self.add("store", second)
            self.add("load", place)
            self.add("sub", second)
        else:
            self.add(WORDS_OF_SIGNS[sign], place)
        if sign in COMPARING_SIGNS:
            self.one_or_zero(sign)
        self.free = place

    def one_or_zero(self, sign):
        """Let the accumulator be 1 or 0 by what a comparison left."""
        end = self.new_label("end")
        if sign == "!=":
            # What is alike has left 0 already.
            self.add("zero", end)
            self.add("set", 1)
        else:
            true = self.new_label("true")
            self.add("less" if sign == "<" else "zero", true)
            self.add("set", 0)
            self.add("jump", end)
            self.here(true)
            self.add("set", 1)
        self.here(end)

    def begin(self, program):
        """Add what lets numbers begin as told."""
        for name in sorted(program.numbers):
            number = program.numbers[name] & (1 << self.size.data) - 1
            # Memory begins with zeros.
            if number > 0:
                self.add("set", number)
                self.add("store", self.place_of(name))

    def block(self, body):
        """Add the code of statements."""
        for row in body:
            self.statement(row)

    def statement(self, row):
        """Add the code of a statement."""
        word = row[0]
        if word == "put":
            self.value(row[2])
            self.add("store", self.place_of(row[1]))
        elif word == "put_at":
            place = self.row_place(row[1], row[2])
            self.value(row[3])
            self.add("to", place)
            self.free = place
        elif word == "out":
            self.value(row[1])
            self.add("out")
        elif word == "if":
            self.choice(row[1], row[2], row[3])
        else:
            self.loop(row[1], row[2])

    def choice(self, test, body, other):
        """Add the code of an if."""
        behind = self.new_label("else")
        end = self.new_label("end")
        self.value(test)
        self.add("zero", behind)
        self.block(body)
        if other:
            self.add("jump", end)
        self.here(behind)
        self.block(other)
        self.here(end)

    def loop(self, test, body):
        """Add the code of a while."""
        top = self.new_label("while")
        end = self.new_label("end")
        self.here(top)
        self.value(test)
        self.add("zero", end)
        self.block(body)
        self.add("jump", top)
        self.here(end)

    def closed(self):
        """Return the code with the places of labels put in; raise CodeError if it is too long."""
        if len(self.code) > 1 << self.size.code:
            raise CodeError("there is more code than fits")
        return tuple((word, self.labels[number] if number in self.labels else number) for word, number in self.code)


def compile_program(program, size):
    """Return the instructions of a program; raise CodeError if code or memory are too small for it."""
    compiler = Compiler(size, program)
    compiler.begin(program)
    compiler.block(program.body)
    compiler.add("halt")
    return compiler.closed()


def shortened(code):
    """Return code that does the same without what changes nothing: a load behind a store of the same place, a jump on.

    Nothing is left out that some jump goes to.
    """
    found = tuple(code)
    place = 0
    while place < len(found):
        if is_idle(found, place):
            found = without(found, place)
            # A jump over what went is idle now; all that stands ahead of it is as it was.
            place = max(0, place - 1)
        else:
            place += 1
    return found


def is_idle(code, place):
    """Return True for an instruction that changes nothing, wherever it is come to from."""
    word, number = code[place]
    if any(row[0] in JUMPS and row[1] == place for row in code):
        return False
    if word in JUMPS:
        return number == place + 1
    return word == "load" and place > 0 and code[place - 1] == ("store", number)


def without(code, gone):
    """Return code without an instruction, jumps turned."""
    found = []
    for place, (word, number) in enumerate(code):
        if place != gone:
            found.append((word, number - 1) if word in JUMPS and number > gone else (word, number))
    return tuple(found)
