"""Programs: a small language of whole numbers with so many bits.

A program has "var name = number" and "rows name size" lines, then statements: "name = e", "name[e] = e", "out e",
"if e", "else", "end", "while e", "end". Expressions have + - & ^ == != <, brackets, half(e), in, names, name[e],
numbers.
"""

from chipstack.errors import CodeError
from chipstack.plantext import DIGITS, LETTERS, MOST_LETTERS, end_of

WORDS_OF_PROGRAMS = ("var", "rows", "out", "if", "else", "while", "end", "in", "half")
# Longer signs stand first, so that "==" is not read as two of "=".
SIGNS_OF_PROGRAMS = ("==", "!=", "+", "-", "&", "^", "<", "=", "(", ")", "[", "]")
COMPARING_SIGNS = ("==", "!=", "<")
PLAIN_SIGNS = ("+", "-", "&", "^")
MOST_PROGRAM_MARKS = 60
MOST_DEEP_PROGRAM = 12
MOST_DIGITS_OF_PROGRAM = 3


class Program:
    """Numbers by name (what they begin with), rows by name (how many), and statements.

    Statements are ("put", name, e), ("put_at", name, e, e), ("out", e), ("if", e, statements, statements) and
    ("while", e, statements); expressions ("number", n), ("name", n), ("at", n, e), ("op", sign, a, b), ("half", e),
    ("in",).
    """

    def __init__(self, numbers, rows, body):
        self.numbers = {name: numbers[name] for name in numbers}
        self.rows = {name: rows[name] for name in rows}
        self.body = tuple(body)

    def shown(self):
        """Return (numbers ascending, rows ascending, statements)."""
        return (tuple(sorted(self.numbers.items())), tuple(sorted(self.rows.items())), self.body)


def words_of(line):
    """Return the marks of a line; "//" begins a remark; raise CodeError for other signs, and more than sixty marks."""
    found = []
    place = 0
    while place < len(line) and not line.startswith("//", place):
        if line[place] == " ":
            place += 1
            continue
        end = mark_end(line, place)
        if end == place or len(found) >= MOST_PROGRAM_MARKS:
            raise CodeError("a line has a sign that is none, or too many marks")
        found.append(line[place:end])
        place = end
    return found


def mark_end(line, place):
    """Return the place behind the mark that begins at one; the place itself if there is none."""
    if line[place] in LETTERS:
        return end_of(line, place, LETTERS + DIGITS)
    if line[place] in DIGITS:
        return end_of(line, place, DIGITS)
    for sign in SIGNS_OF_PROGRAMS:
        if line.startswith(sign, place):
            return place + len(sign)
    return place


def is_name(mark):
    """Return True for the mark of a name."""
    return mark != "" and mark[0] in LETTERS and len(mark) <= MOST_LETTERS and mark not in WORDS_OF_PROGRAMS


class LineReader:
    """The marks of a line, a place in them, and how deep expressions are."""

    def __init__(self, marks):
        self.marks = tuple(marks)
        self.at = 0
        self.deep = 0

    def here(self):
        """Return the mark at the place, "" at the end."""
        return self.marks[self.at] if self.at < len(self.marks) else ""

    def expression(self):
        """Read an expression: one comparison, or none."""
        at, deep = self.at, self.deep
        try:
            return self.comparison()
        except CodeError:
            # What raises changes nothing: the reader stays where it was.
            self.at = at
            self.deep = deep
            raise

    def index(self):
        """Read "[e]"."""
        at, deep = self.at, self.deep
        try:
            self.take("[")
            tree = self.comparison()
            self.take("]")
            return tree
        except CodeError:
            self.at = at
            self.deep = deep
            raise

    def take(self, mark):
        """Go behind a mark; raise CodeError for another one."""
        if self.here() != mark:
            raise CodeError("a line lacks a mark, or has one too many")
        self.at += 1

    def take_name(self):
        """Go behind a name and return it; raise CodeError for another mark."""
        mark = self.here()
        if not is_name(mark):
            raise CodeError("a name is none")
        self.at += 1
        return mark

    def take_number(self):
        """Go behind a number and return it; raise CodeError for another mark."""
        mark = self.here()
        if mark == "" or mark[0] not in DIGITS or len(mark) > MOST_DIGITS_OF_PROGRAM:
            raise CodeError("a number is none")
        self.at += 1
        return int(mark)

    def finish(self):
        """Raise CodeError if the line is not over."""
        if self.at < len(self.marks):
            raise CodeError("a line has marks behind its end")

    def comparison(self):
        """Read an expression, wherever that leads to."""
        self.deep += 1
        if self.deep > MOST_DEEP_PROGRAM:
            raise CodeError("an expression is too deep")
        tree = self.total()
        sign = self.here()
        if sign in COMPARING_SIGNS:
            self.take(sign)
            tree = ("op", sign, tree, self.total())
        self.deep -= 1
        return tree

    def total(self):
        """Read operations that are no comparisons, from the left."""
        tree = self.operand()
        while self.here() in PLAIN_SIGNS:
            sign = self.here()
            self.take(sign)
            tree = ("op", sign, tree, self.operand())
        return tree

    def operand(self):
        """Read an operand."""
        mark = self.here()
        if mark in ("(", "half"):
            self.take(mark)
            if mark == "half":
                self.take("(")
            tree = self.comparison()
            self.take(")")
            return ("half", tree) if mark == "half" else tree
        if mark == "in":
            self.take("in")
            return ("in",)
        if mark != "" and mark[0] in DIGITS:
            return ("number", self.take_number())
        name = self.take_name()
        return ("at", name, self.index()) if self.here() == "[" else ("name", name)


class ProgramReader:
    """Lines of marks, a place in them, what is told of names, and how deep blocks are."""

    def __init__(self, lines):
        self.lines = tuple(lines)
        self.at = 0
        self.deep = 0
        self.numbers = {}
        self.rows = {}

    def first_word(self):
        """Return the first mark of the line at the place, "" at the end."""
        return self.lines[self.at][0] if self.at < len(self.lines) else ""

    def next_line(self):
        """Go behind the line at the place, and return a reader of its marks."""
        self.at += 1
        return LineReader(self.lines[self.at - 1])

    def take_word(self, word):
        """Go behind a line that is nothing but a word; raise CodeError for another one."""
        if self.first_word() != word:
            raise CodeError(f"{word} lacks")
        line = self.next_line()
        line.take(word)
        line.finish()

    def read_names(self):
        """Read the lines that tell names."""
        while self.first_word() in ("var", "rows"):
            word = self.first_word()
            line = self.next_line()
            line.take(word)
            name = line.take_name()
            if name in self.numbers or name in self.rows:
                raise CodeError(f"{name} is told twice")
            if word == "var":
                line.take("=")
                self.numbers[name] = line.take_number()
            else:
                self.rows[name] = line.take_number()
            line.finish()

    def block(self):
        """Read statements up to a line that begins with none."""
        found = []
        while self.first_word() not in ("", "end", "else"):
            found.append(self.statement())
        return tuple(found)

    def inner_block(self):
        """Read the statements within a block; raise CodeError if it is too deep."""
        self.deep += 1
        if self.deep > MOST_DEEP_PROGRAM:
            raise CodeError("a block is too deep")
        found = self.block()
        self.deep -= 1
        return found

    def statement(self):
        """Read a statement."""
        line = self.next_line()
        word = line.here()
        if word in ("out", "if", "while"):
            line.take(word)
            tree = self.known(line.expression())
            line.finish()
            return ("out", tree) if word == "out" else self.with_blocks(word, tree)
        name = line.take_name()
        place = ()
        if line.here() == "[":
            place = (self.known(line.index()),)
        line.take("=")
        tree = self.known(line.expression())
        line.finish()
        self.check_name(name, self.rows if place else self.numbers)
        return ("put_at", name, place[0], tree) if place else ("put", name, tree)

    def with_blocks(self, word, tree):
        """Read what stands behind the line of an if or a while, up to its end."""
        body = self.inner_block()
        if word == "while":
            self.take_word("end")
            return ("while", tree, body)
        other = ()
        if self.first_word() == "else":
            self.take_word("else")
            other = self.inner_block()
        self.take_word("end")
        return ("if", tree, body, other)

    def known(self, tree):
        """Return an expression; raise CodeError for names in it that are unknown, or of the other class."""
        if tree[0] == "name":
            self.check_name(tree[1], self.numbers)
        elif tree[0] == "at":
            self.check_name(tree[1], self.rows)
            self.known(tree[2])
        elif tree[0] == "op":
            self.known(tree[2])
            self.known(tree[3])
        elif tree[0] == "half":
            self.known(tree[1])
        return tree

    def check_name(self, name, table):
        """Raise CodeError for a name that a table does not have."""
        if name not in table:
            raise CodeError(f"{name} is unknown, or of the other class")


def parse_program(text):
    """Return the program of a text; raise CodeError for lines that are none, and names unknown or told twice."""
    lines = [words_of(line) for line in text.split("\n")]
    reader = ProgramReader([marks for marks in lines if marks])
    reader.read_names()
    body = reader.block()
    if reader.first_word() != "":
        raise CodeError("there is an end without a beginning")
    return Program(reader.numbers, reader.rows, body)


def program_text(program):
    """Return a program's text, its lines two blanks deeper within each block."""
    found = [f"var {name} = {program.numbers[name]}" for name in program.numbers]
    found.extend([f"rows {name} {program.rows[name]}" for name in program.rows])
    found.extend(block_lines(program.body, ""))
    return "".join([line + "\n" for line in found])


def block_lines(body, ahead):
    """Return the lines of statements, blanks ahead of each."""
    found = []
    for row in body:
        if row[0] in ("if", "while"):
            found.append(f"{ahead}{row[0]} {tree_text(row[1])}")
            found.extend(block_lines(row[2], ahead + "  "))
            if row[0] == "if" and row[3]:
                found.append(ahead + "else")
                found.extend(block_lines(row[3], ahead + "  "))
            found.append(ahead + "end")
        else:
            found.append(ahead + statement_text(row))
    return found


def statement_text(row):
    """Return the text of a statement without blocks."""
    if row[0] == "out":
        return f"out {tree_text(row[1])}"
    if row[0] == "put":
        return f"{row[1]} = {tree_text(row[2])}"
    return f"{row[1]}[{tree_text(row[2])}] = {tree_text(row[3])}"


def tree_text(tree, level=0):
    """Return an expression's text, with brackets only where they are needed.

    level is 0 for any expression, 1 where a comparison needs brackets, 2 where every operation does.
    """
    word = tree[0]
    if word in ("number", "name"):
        return str(tree[1])
    if word == "in":
        return "in"
    if word == "half":
        return f"half({tree_text(tree[1])})"
    if word == "at":
        return f"{tree[1]}[{tree_text(tree[2])}]"
    # Operations go from the left, so only right sides that are operations need brackets.
    text = f"{tree_text(tree[2], 1)} {tree[1]} {tree_text(tree[3], 1 if tree[1] in COMPARING_SIGNS else 2)}"
    least = 1 if tree[1] in COMPARING_SIGNS else 2
    return f"({text})" if level >= least else text
