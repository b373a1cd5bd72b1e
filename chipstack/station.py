"""The station: a program that comes over a line of single bits, is put into the code, and runs."""

from chipstack.core import Board
from chipstack.errors import CodeError, RunError
from chipstack.isa import decoded, encoded
from chipstack.traffic import receiver_text
from chipstack.units import join_of, plan_of

BITS_OF_BYTE = 8
MOST_WORDS = 255
BEATS_BEHIND = 40
TOLD = ("put", "spot", "word", "done", "spoilt")


def has_two_bytes(size):
    """Return True if an instruction has more bits than one byte."""
    return size.width() > BITS_OF_BYTE


def program_bytes(code, size):
    """Return the bytes of code: how many instructions, then each one's code as one or two bytes, the low one first.

    Two if it has more than eight bits. Raise CodeError for more than 255 instructions, or none that fit.
    """
    if len(code) > MOST_WORDS or len(code) > 1 << size.code:
        raise CodeError(f"{len(code)} instructions are too many")
    found = [len(code)]
    for row in code:
        word = encoded(row, size)
        found.append(word & 255)
        if has_two_bytes(size):
            found.append(word >> BITS_OF_BYTE)
    return tuple(found)


def loader_text(size):
    """Return the plan "loader": numbers come in (number, ready, bad); put, spot, word, done and spoilt go out.

    The first number tells how many words come; each word is put at the next spot, from 0 on. Behind a bad number
    nothing is put any more, and done stays as it is.
    """
    lines = ["in number 8", "in ready 1", "in bad 1", *told_lines(size), "keep begun 1 = 0", "keep left 8 = 0",
             "keep next 8 = 0", "keep ended 1 = 0", "keep spoils 1 = 0"]
    lines.append("let good = ready & ~bad & ~spoils")
    lines.append("let begins = good & ~begun")
    if has_two_bytes(size):
        lines.extend(["keep low 8 = 0", "keep half 1 = 0"])
        lines.append("let comes = good & begun & ~ended")
        lines.append("let puts = comes & half")
        lines.extend(["low <- if comes then number else low", "half <- half ^ comes"])
        lines.append("word = " + join_of([f"number[{size.width() - BITS_OF_BYTE - 1}:0]", "low"]))
    else:
        lines.append("let puts = good & begun & ~ended")
        lines.append(f"word = number[{size.width() - 1}:0]")
    lines.extend(["begun <- begun | good", "left <- if begins then number else if puts then left - 1:8 else left",
                  "next <- if puts then next + 1:8 else next",
                  "ended <- ended | begins & number == 0:8 | puts & left == 1:8", "spoils <- spoils | bad",
                  "put = puts", "spot = next", "done = ended", "spoilt = spoils"])
    return plan_of("loader", lines)


def told_lines(size):
    """Return the lines of what a loader tells."""
    return ["out put 1", "out spot 8", f"out word {size.width()}", "out done 1", "out spoilt 1"]


def station_text(size, beats):
    """Return the plans "receiver", "loader" and "station": a line comes in, what the loader tells goes out."""
    lines = ["in line 1", *told_lines(size), "use hears of receiver (line = line)"]
    lines.append("use loads of loader (number = hears.number, ready = hears.ready, bad = hears.bad)")
    lines.extend([f"{name} = loads.{name}" for name in TOLD])
    return receiver_text(BITS_OF_BYTE, beats) + loader_text(size) + plan_of("station", lines)


def line_of(sender, data, gaps):
    """Return the bits of a line on which a sender's circuit sends bytes, so many beats of rest ahead of each.

    There are 40 behind. Of gaps that are too few the last one counts, 0 without any.
    """
    found = []
    for at, byte in enumerate(data):
        gap = gaps[min(at, len(gaps) - 1)] if len(gaps) > 0 else 0
        found.extend(rest_of(sender, gap))
        found.append(sender.step({"number": byte, "go": 1})["line"])
        while sender.given({"number": 0, "go": 0})["busy"]:
            found.extend(rest_of(sender, 1))
    found.extend(rest_of(sender, BEATS_BEHIND))
    return tuple(found)


def rest_of(sender, many):
    """Return the bits of so many beats in which a sender is told nothing new."""
    return [sender.step({"number": 0, "go": 0})["line"] for _ in range(many)]


class Station:
    """A station's circuit, a machine's circuit and size, the board once the code is there, how many words were put."""

    def __init__(self, circuit, machine, size, coming=()):
        self.circuit = circuit
        self.machine = machine
        self.size = size
        self.coming = tuple(coming)
        self.codes = []
        self.words = 0
        self.board = None
        self.spoilt = False

    def run(self, line, most):
        """Hear a line, and then let the machine run so many beats; return whether it halted.

        Raise RunError if the code did not come, or was spoilt before its end.
        """
        done = False
        for bit in line:
            done = self.hear(bit)
        if done and self.board is None:
            code = [decoded(word, self.size) for word in self.codes]
            self.board = Board(self.machine, self.size, code, self.coming)
        if self.board is None:
            raise RunError("the code did not come, or was spoilt")
        return self.board.run(most)

    def hear(self, bit):
        """Hear a bit of a line; return whether all words are there."""
        outs = self.circuit.step({"line": bit})
        if outs["put"]:
            self.codes.append(outs["word"])
            self.words += 1
        self.spoilt = outs["spoilt"] == 1
        return outs["done"] == 1
