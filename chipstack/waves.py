"""Waves: what goes in and out of a circuit, beat by beat, as lines of text."""

from chipstack.errors import RunError
from chipstack.plans import MOST_WIDTH
from chipstack.plantext import DIGITS, LETTERS, MOST_DIGITS

LAST_BEAT = 100000


class Wave:
    """Names with their widths, in order, and a row of numbers for each beat."""

    def __init__(self, widths):
        self.widths = tuple((name, width) for name, width in widths)
        self.rows = []

    def add(self, table):
        """Add a beat's numbers, a table by name; raise RunError for one that lacks, or does not fit."""
        row = []
        for name, width in self.widths:
            if name not in table or not 0 <= table[name] < 1 << width:
                raise RunError(f"{name} lacks, or does not fit {width} bits")
            row.append(table[name])
        self.rows.append(tuple(row))

    def wave_text(self):
        """Return the wave's text: "name width" lines, an empty one, for each beat with a change "#beat name=number"."""
        lines = [f"{name} {width}" for name, width in self.widths]
        lines.append("")
        for beat in range(len(self.rows)):
            told = [f"{name}={number}" for name, number in self.changed_at(beat)]
            # The last beat has a line at any rate, since it tells how many beats there are.
            if told or beat == 0 or beat == len(self.rows) - 1:
                lines.append(" ".join([f"#{beat}", *told]))
        return "\n".join([*lines, ""])

    def changed_at(self, beat):
        """Return (name, number) of what changed since the beat before, in order: all at the first one."""
        row = self.rows[beat]
        found = []
        for at, (name, width) in enumerate(self.widths):
            if beat == 0 or row[at] != self.rows[beat - 1][at]:
                found.append((name, row[at]))
        return found

    def changes(self, name):
        """Return (beat, number) of a name at the first beat and wherever it changes; raise RunError for an unknown."""
        places = [at for at, row in enumerate(self.widths) if row[0] == name]
        if places == []:
            raise RunError(f"{name} is unknown")
        found = []
        for beat, row in enumerate(self.rows):
            number = row[places[0]]
            if found == [] or number != found[-1][1]:
                found.append((beat, number))
        return tuple(found)

    def first_unlike(self, other):
        """Return (beat, name) of the first number that differs from another wave of the same names, None for none."""
        others = {row[0]: at for at, row in enumerate(other.widths)}
        for beat, (row, another) in enumerate(zip(self.rows, other.rows)):
            for at, (name, width) in enumerate(self.widths):
                if row[at] != another[others[name]]:
                    return (beat, name)
        return None


def read_wave(text):
    """Return the wave of a text; raise RunError for others."""
    lines = text.split("\n")
    if lines[-1] != "" or "" not in lines[:-1]:
        raise RunError("a wave has an empty line behind its names, and ends with a line end")
    end = lines.index("")
    found = Wave([head_of(line) for line in lines[:end]])
    if len(dict(found.widths)) != len(found.widths):
        raise RunError("a name is told twice")
    for line in lines[end + 1:-1]:
        read_beat(found, line)
    return found


def head_of(line):
    """Return (name, width) of a line; raise RunError for others."""
    name, _, width = line.partition(" ")
    if name == "" or any(sign not in LETTERS + DIGITS for sign in name) or name[0] in DIGITS:
        raise RunError("a name is none")
    if not 1 <= number_of_text(width) <= MOST_WIDTH:
        raise RunError(f"{name} has a width that is none")
    return (name, number_of_text(width))


def read_beat(wave, line):
    """Add the beat of a line to a wave, and ahead of it those that have no line; raise RunError for no beat."""
    words = line.split(" ")
    if not words[0].startswith("#"):
        raise RunError("a line of a beat begins with its number")
    beat = number_of_text(words[0][1:])
    if beat < len(wave.rows) or beat > LAST_BEAT or (beat > 0 and wave.rows == []):
        raise RunError(f"there cannot be beat {beat} here")
    table = told_in(words[1:], wave)
    while len(wave.rows) < beat:
        wave.rows.append(wave.rows[-1])
    if beat > 0:
        for at, (name, width) in enumerate(wave.widths):
            table.setdefault(name, wave.rows[-1][at])
    wave.add(table)


def told_in(words, wave):
    """Return a table of the numbers that the words of a line tell; raise RunError for others than a wave has."""
    widths = dict(wave.widths)
    found = {}
    for word in words:
        name, mark, number = word.partition("=")
        if name not in widths or mark == "" or name in found:
            raise RunError("a line of a beat tells no number of a name, or two")
        found[name] = number_of_text(number)
    return found


def number_of_text(text):
    """Return the number of some digits, without a 0 ahead; raise RunError for others, or more than ten."""
    if not 0 < len(text) <= MOST_DIGITS or any(sign not in DIGITS for sign in text):
        raise RunError("a number is none")
    if text[0] == "0" and len(text) > 1:
        raise RunError("a number has a 0 ahead")
    return int(text)
