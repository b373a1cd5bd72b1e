"""The desk: all of it by lines of text, from a program or a plan to a placed machine and its bits."""

from chipstack.building import build
from chipstack.compiling import compile_program, shortened
from chipstack.core import Board, core_text
from chipstack.equality import difference
from chipstack.errors import ChipError, RunError
from chipstack.fabric import cells_in, fabric_bytes, fabric_from, fabric_of
from chipstack.isa import Size
from chipstack.placing import nets_of, place_cells, total_length
from chipstack.plans import parse_plans
from chipstack.programs import parse_program
from chipstack.routing import route_cells
from chipstack.simplifying import simplified
from chipstack.tables import CellRun, cells_of
from chipstack.timing import timing_of
from chipstack.waves import number_of_text

MOST_BEATS = 2000
TURNS = 10
LINE_END = " / "


class Desk:
    """What has been made so far: code, plans, gates as built and simplified, cells, a layout, routes, bytes, a run."""

    def __init__(self):
        self.size = None
        self.code = None
        self.plans = None
        self.built = None
        self.less = None
        self.cells = None
        self.layout = None
        self.routes = None
        self.ways = None
        self.told_bytes = None
        self.loaded = None

    def enter(self, line):
        """Carry out a line and return its answer; "error" for what cannot be, which changes nothing.

        Lines are "size data code", "program text" and "plan text" (line ends as " / "), "core", "build name", "cells",
        "place seed", "route", "time", "bits", "load", "beat name=number ..", "same" and "run beats numbers ..".
        """
        word, _, rest = line.partition(" ")
        try:
            return self.answer(word, rest)
        except ChipError:
            return "error"

    def answer(self, word, rest):
        """Carry out a line by its first word and what stands behind it; return its answer."""
        if word == "size":
            return self.tell_size(rest)
        if word == "program":
            return self.tell_program(rest)
        if word == "plan":
            return self.tell_plans(rest)
        if word == "build":
            return self.build_gates(rest)
        if word == "place":
            return self.lay_out(rest)
        if word == "beat":
            return self.beat(rest)
        if word == "run":
            return self.run(rest)
        if rest.split() != []:
            raise RunError("something is left over")
        return self.answer_alone(word)

    def answer_alone(self, word):
        """Carry out a line that is one word; return its answer."""
        if word == "core":
            return self.tell_core()
        if word == "cells":
            return self.make_cells()
        if word == "route":
            return self.lay_wires()
        if word == "time":
            return self.longest_way()
        if word == "bits":
            return self.make_bytes()
        if word == "load":
            return self.load()
        if word == "same":
            return self.compare()
        raise RunError("this is no line of the desk")

    def tell_size(self, rest):
        """Let machines have a size, and forget the code."""
        data, code = numbers_in(rest, 2)
        self.size = Size(data, code)
        self.code = None
        return "done"

    def tell_program(self, rest):
        """Compile a program; answer how many instructions it has."""
        code = compile_program(parse_program(rest.replace(LINE_END, "\n")), there(self.size))
        self.code = shortened(code)
        return str(len(self.code))

    def tell_plans(self, rest):
        """Read plans; answer their names."""
        self.plans = parse_plans(rest.replace(LINE_END, "\n"))
        return " ".join(list(self.plans))

    def tell_core(self):
        """Let the core be the plan; answer its name."""
        self.plans = parse_plans(core_text(there(self.size)))
        return " ".join(list(self.plans))

    def build_gates(self, rest):
        """Build a plan; answer how many gates it has as built, and simplified."""
        words = rest.split()
        if len(words) != 1:
            raise RunError("a plan has one name")
        built = build(there(self.plans), words[0])
        less = simplified(built)
        self.built, self.less = built, less
        self.forget_cells()
        return f"{built.count()} {less.count()}"

    def make_cells(self):
        """Make cells; answer how many they are."""
        cells = cells_of(there(self.less))
        self.forget_cells()
        self.cells = cells
        return str(len(cells.cells))

    def lay_out(self, rest):
        """Place the cells by a seed; answer the side and the length of all nets."""
        seed = numbers_in(rest, 1)[0]
        cells = there(self.cells)
        layout = place_cells(cells, seed, TURNS)
        self.forget_layout()
        self.layout = layout
        return f"{layout.side} {total_length(layout, nets_of(cells))}"

    def lay_wires(self):
        """Lay wires; answer how many tracks and wires there are."""
        routes, ways = route_cells(there(self.cells), there(self.layout))
        self.forget_routes()
        self.routes, self.ways = routes, ways
        return f"{routes.tracks} {routes.length()}"

    def longest_way(self):
        """Answer the longest way."""
        return str(timing_of(self.cells, self.layout, there(self.routes), self.ways).longest)

    def make_bytes(self):
        """Make bytes; answer how many they are, and the last two. What was loaded stays."""
        rows = fabric_bytes(fabric_of(self.cells, self.layout, there(self.routes), self.ways))
        self.told_bytes = rows
        return f"{len(rows)} {rows[-2]} {rows[-1]}"

    def load(self):
        """Find the circuit in the bytes again; answer how many cells it has."""
        cells = cells_in(fabric_from(there(self.told_bytes)))
        self.loaded = CellRun(cells)
        return str(len(cells.cells))

    def beat(self, rest):
        """Let a beat of the run pass; answer what goes out, by name."""
        circuit = there(self.loaded)
        table = table_in(rest)
        if any(name not in table for name, bit in circuit.cells.pins):
            raise RunError("something does not come in")
        widths = {name: 0 for name in table}
        for name, bit in circuit.cells.pins:
            widths[name] = max(widths[name], bit + 1)
        # What nothing reads has no bits, so that no number fits; what comes in has to fit.
        if any(widths[name] == 0 or table[name] >> widths[name] > 0 for name in table):
            raise RunError("something comes in that is not there, or does not fit")
        outs = circuit.step(table)
        return " ".join([f"{name}={outs[name]}" for name in sorted(outs)])

    def compare(self):
        """Answer whether the gates do the same as built and simplified."""
        return "same" if difference(there(self.built), self.less) is None else "other"

    def run(self, rest):
        """Let the loaded machine carry out the code for so many beats; answer what went out, and "halt" or "on"."""
        numbers = [number_of_text(word) for word in rest.split()]
        if numbers == [] or numbers[0] > MOST_BEATS:
            raise RunError("beats lack, or are too many")
        cells = there(self.loaded).cells
        size, code = there(self.size), there(self.code)
        core = parse_plans(core_text(size))["core"]
        if sorted(cells.pins) != sorted(bits_of(core.ins())) or sorted(cells.outs) != sorted(bits_of(core.gives())):
            raise RunError("what is loaded is no machine of the size")
        board = Board(CellRun(cells), size, code, numbers[1:])
        halted = board.run(numbers[0])
        return " ".join([*[str(number) for number in board.sent], "halt" if halted else "on"])

    def forget_cells(self):
        """Forget cells, and all that was made of them."""
        self.cells = None
        self.forget_layout()

    def forget_layout(self):
        """Forget the layout, and all that was made of it."""
        self.layout = None
        self.forget_routes()

    def forget_routes(self):
        """Forget the routes, the bytes and what was loaded."""
        self.routes, self.ways = None, None
        self.told_bytes = None
        self.loaded = None


def there(made):
    """Return what was made; raise RunError if it is not there yet."""
    if made is None:
        raise RunError("something has to be made first")
    return made


def numbers_in(rest, many):
    """Return the numbers of a text; raise RunError if they are not so many."""
    found = [number_of_text(word) for word in rest.split()]
    if len(found) != many:
        raise RunError(f"there are not {many} numbers")
    return found


def table_in(rest):
    """Return a table of the numbers that a text tells by name; raise RunError for others, and names told twice."""
    found = {}
    for word in rest.split():
        name, mark, number = word.partition("=")
        if mark == "" or name in found:
            raise RunError("a word tells no number of a name, or a second one")
        found[name] = number_of_text(number)
    return found


def bits_of(rows):
    """Return (name, bit) of all bits of (name, width) rows."""
    return [(name, bit) for name, width in rows for bit in range(width)]
