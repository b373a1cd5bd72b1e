"""Plan texts: circuits as lines of text.

A plan has the lines "plan name", "in name width", "out name width", "keep name width = number", "let name = e",
"use part of plan (port = e, ..)", "name <- e" for what is kept next, "name = e" for what goes out, and "end".

Expressions are ("number", value, width), ("name", name), ("not", e), ("op", sign, e, e), ("if", test, e, e),
("shift", sign, e, many), ("slice", e, high, low), ("join", (e, e, ..)), ("wide", e, width), ("all", e) and ("any",
e).
"""

from chipstack.errors import PlanError

LETTERS = "abcdefghijklmnopqrstuvwxyz"
DIGITS = "0123456789"
WORDS = ("plan", "in", "out", "keep", "let", "use", "of", "end", "if", "then", "else", "wide", "all", "any")
# Longer signs stand first, so that "<<" is not read as two of "<".
SIGNS = ("<<", ">>", "<-", "==", "!=", "(", ")", "{", "}", "[", "]", ",", ":", ".", "=", "|", "^", "&", "<", "+", "-",
         "~")
STRENGTHS = {"|": 1, "^": 2, "&": 3, "==": 4, "!=": 4, "<": 4, "+": 5, "-": 5}
COMPARING = 4
SHIFTING = 6
STRONGEST = 7
MOST_LETTERS = 20
MOST_DIGITS = 10
MOST_MARKS = 120
MOST_DEEP_PLAN = 30


class Mark:
    """A class ("name", "number", "sign", "word", "end"), a text and the number of its line, from 1 on."""

    def __init__(self, kind, text, line):
        self.kind = kind
        self.text = text
        self.line = line


def marks_of(text):
    """Return the marks of a text, one of a line end at each line's end; "//" begins a remark. Raise PlanError."""
    found = []
    for number, line in enumerate(text.split("\n"), start=1):
        marks = line_marks(line, number)
        # Lines without a mark do not count, so they have no end either.
        if marks:
            found.extend(marks)
            found.append(Mark("end", "", number))
    return found


def line_marks(line, number):
    """Return the marks of one line; raise PlanError for signs that are none, and too many marks."""
    found = []
    place = 0
    while place < len(line) and not line.startswith("//", place):
        if line[place] == " ":
            place += 1
        else:
            mark = mark_at(line, place, number)
            found.append(mark)
            place += len(mark.text)
    if len(found) > MOST_MARKS:
        raise PlanError(f"line {number} has too many marks")
    return found


def mark_at(line, place, number):
    """Return the mark at a place of a line; raise PlanError for none."""
    if place >= len(line):
        raise PlanError(f"line {number} is over")
    if line[place] in LETTERS:
        return name_at(line, place, number)
    if line[place] in DIGITS:
        return number_at(line, place, number)
    for sign in SIGNS:
        if line.startswith(sign, place):
            return Mark("sign", sign, number)
    raise PlanError(f"line {number} has no mark at {place}")


def name_at(line, place, number):
    """Return the name or word that begins at a place; raise PlanError if it is too long."""
    text = line[place:end_of(line, place, LETTERS + DIGITS)]
    if len(text) > MOST_LETTERS:
        raise PlanError(f"line {number} has a name that is too long")
    return Mark("word" if text in WORDS else "name", text, number)


def number_at(line, place, number):
    """Return the number that begins at a place; raise PlanError for too many digits, or a 0 ahead of others."""
    text = line[place:end_of(line, place, DIGITS)]
    if len(text) > MOST_DIGITS or (text[0] == "0" and len(text) > 1):
        raise PlanError(f"line {number} has a number that is none")
    return Mark("number", text, number)


def end_of(line, place, signs):
    """Return the first place from one on at which none of some signs stands."""
    end = place
    while end < len(line) and line[end] in signs:
        end += 1
    return end


class PlanReader:
    """Marks and a place in them, and how deep expressions are."""

    def __init__(self, marks):
        self.marks = tuple(marks)
        self.at = 0
        self.deep = 0

    def here(self):
        """Return the text of the mark at the place, "" at the end."""
        return self.marks[self.at].text if self.at < len(self.marks) else ""

    def here_is(self, kind):
        """Return True if a mark of a class stands at the place."""
        return self.at < len(self.marks) and self.marks[self.at].kind == kind

    def fail(self):
        """Raise PlanError at the place."""
        if self.at < len(self.marks):
            mark = self.marks[self.at]
            raise PlanError(f"line {mark.line} cannot have {mark.kind} {mark.text} here")
        raise PlanError("the text ends too early")

    def take(self, text):
        """Go behind a mark of a text; raise PlanError for another one."""
        if self.here() != text:
            self.fail()
        self.at += 1

    def take_kind(self, kind):
        """Go behind a mark of a class and return its text; raise PlanError for another one."""
        if not self.here_is(kind):
            self.fail()
        text = self.here()
        self.at += 1
        return text

    def take_number(self):
        """Go behind a number and return it; raise PlanError for another mark."""
        return int(self.take_kind("number"))

    def expression(self):
        """Read an expression: an if, or operations."""
        at, deep = self.at, self.deep
        try:
            return self.tree()
        except PlanError:
            # What raises changes nothing: the reader stays where it was.
            self.at = at
            self.deep = deep
            raise

    def enter(self):
        """Go one deeper; raise PlanError if that is too deep."""
        if self.deep >= MOST_DEEP_PLAN:
            raise PlanError("an expression is too deep")
        self.deep += 1

    def shifted(self):
        """Read an operand with shifts by numbers behind it."""
        at, deep = self.at, self.deep
        try:
            return self.shifts()
        except PlanError:
            self.at = at
            self.deep = deep
            raise

    def tree(self):
        """Read an expression, wherever that leads to."""
        if self.here() != "if":
            return self.operations(1)
        self.enter()
        self.take("if")
        test = self.tree()
        self.take("then")
        one = self.tree()
        self.take("else")
        other = self.tree()
        self.deep -= 1
        return ("if", test, one, other)

    def operations(self, least):
        """Read operations that bind at least so strongly, from the left."""
        tree = self.shifts()
        sign = self.here()
        while STRENGTHS.get(sign, 0) >= least:
            self.at += 1
            tree = ("op", sign, tree, self.operations(STRENGTHS[sign] + 1))
            behind = self.here()
            if STRENGTHS[sign] == COMPARING and STRENGTHS.get(behind, 0) == COMPARING:
                self.fail()
            sign = behind
        return tree

    def shifts(self):
        """Read an operand and shifts, wherever that leads to."""
        tree = self.operand()
        while self.here() in ("<<", ">>"):
            sign = self.take_kind("sign")
            tree = ("shift", sign, tree, self.take_number())
        return tree

    def operand(self):
        """Read a turned operand, or one with slices behind it."""
        self.enter()
        if self.here() == "~":
            self.take("~")
            tree = ("not", self.operand())
        else:
            tree = self.slices(self.plain_operand())
        self.deep -= 1
        return tree

    def slices(self, tree):
        """Read the slices behind an operand."""
        while self.here() == "[":
            self.take("[")
            high = self.take_number()
            low = high
            if self.here() == ":":
                self.take(":")
                low = self.take_number()
            self.take("]")
            tree = ("slice", tree, high, low)
        return tree

    def plain_operand(self):
        """Read an operand without slices."""
        if self.here_is("number"):
            value = self.take_number()
            self.take(":")
            return ("number", value, self.take_number())
        if self.here_is("name"):
            return ("name", self.full_name())
        word = self.here()
        if word not in ("(", "{", "all", "any", "wide"):
            self.fail()
        self.at += 1
        if word == "{":
            return ("join", self.joined())
        if word == "(":
            tree = self.tree()
        else:
            tree = self.told_of(word)
        self.take(")")
        return tree

    def full_name(self):
        """Read a name, or a part's port."""
        name = self.take_kind("name")
        if self.here() != ".":
            return name
        self.take(".")
        return name + "." + self.take_kind("name")

    def joined(self):
        """Read the expressions of a join, and the bracket behind them."""
        rows = [self.tree()]
        while self.here() == ",":
            self.take(",")
            rows.append(self.tree())
        self.take("}")
        return tuple(rows)

    def told_of(self, word):
        """Read what stands behind all, any or wide, but for the bracket at its end."""
        self.take("(")
        tree = self.tree()
        if word != "wide":
            return (word, tree)
        self.take(",")
        return ("wide", tree, self.take_number())


def expression_text(tree):
    """Return the text of an expression, with brackets only where they are needed."""
    word = tree[0]
    if word == "number":
        return f"{tree[1]}:{tree[2]}"
    if word == "name":
        return tree[1]
    if word == "not":
        return "~" + bracketed(tree[1], STRONGEST)
    if word == "op":
        return operation_text(tree)
    if word == "if":
        test, one, other = expression_text(tree[1]), expression_text(tree[2]), expression_text(tree[3])
        return f"if {test} then {one} else {other}"
    if word == "shift":
        return f"{bracketed(tree[2], SHIFTING)} {tree[1]} {tree[3]}"
    if word == "slice":
        return slice_text(tree)
    if word == "join":
        return "{" + ", ".join([expression_text(row) for row in tree[1]]) + "}"
    if word == "wide":
        return f"wide({expression_text(tree[1])}, {tree[2]})"
    return f"{word}({expression_text(tree[1])})"


def bracketed(tree, least):
    """Return the text of an expression, in brackets if it does not bind at least so strongly."""
    text = expression_text(tree)
    return text if strength(tree) >= least else "(" + text + ")"


def operation_text(tree):
    """Return the text of an operation of two sides."""
    level = strength(tree)
    # Operations go from the left, and comparisons do not follow each other at all.
    left = level + 1 if level == COMPARING else level
    return f"{bracketed(tree[2], left)} {tree[1]} {bracketed(tree[3], level + 1)}"


def slice_text(tree):
    """Return the text of a slice; what is turned needs brackets, since slices bind more strongly than ~."""
    inner = expression_text(tree[1])
    if tree[1][0] == "not" or strength(tree[1]) < STRONGEST:
        inner = "(" + inner + ")"
    bits = str(tree[2]) if tree[2] == tree[3] else f"{tree[2]}:{tree[3]}"
    return f"{inner}[{bits}]"


def strength(tree):
    """Return how strongly an expression binds: 0 an if, 1 to 5 operations, 6 shifts, 7 all else."""
    if tree[0] == "if":
        return 0
    if tree[0] == "op":
        return STRENGTHS[tree[1]]
    return SHIFTING if tree[0] == "shift" else STRONGEST
