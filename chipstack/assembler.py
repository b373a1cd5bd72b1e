"""Assembling: code as lines of text, with names for places."""

from chipstack.errors import CodeError
from chipstack.isa import INSTRUCTIONS, JUMPS, PLAIN, check_instruction
from chipstack.plantext import DIGITS, LETTERS, MOST_LETTERS

MOST_DIGITS_OF_CODE = 3


def line_parts(line):
    """Return (names of places ahead, words) of a line; "//" begins a remark; raise CodeError for a bad name."""
    rows = line.partition("//")[0].split(":")
    names = [row.strip() for row in rows[:-1]]
    for name in names:
        check_label(name)
    return (names, rows[-1].split())


def check_label(name):
    """Raise CodeError for a name that is not of small letters and digits, a letter first."""
    if (name == "" or len(name) > MOST_LETTERS or any(sign not in LETTERS + DIGITS for sign in name)
            or name[0] in DIGITS):
        raise CodeError("a place has a name that is none")


def assemble(text, size):
    """Return the instructions of a text; raise CodeError for lines that are none, and names unknown or told twice.

    A line has names of places, each with ":", and perhaps a word and its number; jumps may go to names.
    """
    places = {}
    found = []
    for line in text.split("\n"):
        names, words = line_parts(line)
        for name in names:
            if name in places:
                raise CodeError(f"{name} is told twice")
            places[name] = len(found)
        if words:
            found.append(words)
    if len(found) > 1 << size.code:
        raise CodeError(f"{len(found)} instructions are too many")
    code = [instruction_of(words, places) for words in found]
    for row in code:
        check_instruction(row, size)
    return tuple(code)


def instruction_of(words, places):
    """Return the instruction of a line's words; raise CodeError for none."""
    word = words[0] if words else ""
    if word not in INSTRUCTIONS or len(words) != (1 if word in PLAIN else 2):
        raise CodeError("a line has no instruction")
    if word in PLAIN:
        return (word, 0)
    if word in JUMPS and words[1] in places:
        return (word, places[words[1]])
    if not 0 < len(words[1]) <= MOST_DIGITS_OF_CODE or any(sign not in DIGITS for sign in words[1]):
        raise CodeError(f"{word} has no number, or goes to no place that is told")
    return (word, int(words[1]))


def listing(code):
    """Return the text of instructions: a line each, names "p" and a place where jumps go to."""
    named = {row[1]: True for row in code if row[0] in JUMPS and row[1] < len(code)}
    found = []
    for place, row in enumerate(code):
        ahead = f"p{place}: " if place in named else ""
        found.append(ahead + line_of(row, named) + "\n")
    return "".join(found)


def line_of(row, named):
    """Return the line of an instruction, some places being named."""
    word, number = row
    if word in PLAIN:
        return word
    return f"{word} p{number}" if word in JUMPS and number in named else f"{word} {number}"
