"""Points 16 and 20: the desk."""

import random
import unittest

from chipstack.building import build
from chipstack.compiling import compile_program, shortened
from chipstack.core import Board, core_text
from chipstack.desk import Desk, bits_of
from chipstack.direct import direct_text
from chipstack.equality import difference
from chipstack.errors import ChipError, RunError
from chipstack.fabric import cells_in, fabric_bytes, fabric_from, fabric_of
from chipstack.fast import fast_text
from chipstack.gates import Run
from chipstack.isa import Machine, Size
from chipstack.placing import nets_of, place_cells, total_length
from chipstack.plans import parse_plans
from chipstack.programs import parse_program, program_text
from chipstack.routing import route_cells
from chipstack.simplifying import simplified
from chipstack.station import station_text
from chipstack.tables import CellRun, cells_of
from chipstack.timing import timing_of
from chipstack.units import gray_text, product_text
from tests.machine import ProgramDrawing

COUNTER = "plan counter / in go 1 / in by 3 / out count 4 / keep now 4 = 9 / now <- if go then now + wide(by, 4) else now / count = now / end / "
PROGRAM = "program var n = 5 / while n /   out n + in / n = n - 1 / end"
STEPS = ("cells", "place 1", "route", "time", "bits", "load")


def told(text):
    """Return a text as it is told in one line."""
    return text.replace("\n", " / ")


def seen(desk):
    """Return a copy of all that a desk has, as a text."""
    def shown(value):
        if hasattr(value, "__dict__"):
            return {name: shown(part) for name, part in vars(value).items()}
        if isinstance(value, dict):
            return [(shown(key), shown(part)) for key, part in value.items()]
        return [shown(part) for part in value] if isinstance(value, (list, tuple)) else value

    return repr(shown(desk))


class DeskCase(unittest.TestCase):
    def enter(self, desk, *rows):
        """Enter lines and hold their answers; one that is a line alone is only no error."""
        for row in rows:
            if isinstance(row, str):
                self.assertNotEqual(desk.enter(row), "error", row)
            else:
                self.assertEqual(desk.enter(row[0]), row[1], row[0])

    def errors(self, desk, *lines):
        """Enter lines that cannot be; they change nothing."""
        before = seen(desk)
        for line in lines:
            self.assertEqual(desk.enter(line), "error", line)
            self.assertEqual(seen(desk), before, line)

    def made(self, plan_line, name, *more):
        """Return a desk with a plan that is loaded."""
        desk = Desk()
        for line in (*more, plan_line, f"build {name}", *STEPS):
            self.assertNotEqual(desk.enter(line), "error", line)
        return desk


class AnswersTest(DeskCase):
    def hold(self, desk, text, name, seed):
        """Hold the answers from a plan to what is loaded against what the functions give; return the cells found."""
        plans = parse_plans(text)
        built = build(plans, name)
        less = simplified(built)
        cells = cells_of(less)
        layout = place_cells(cells, seed, 10)
        routes, ways = route_cells(cells, layout)
        rows = fabric_bytes(fabric_of(cells, layout, routes, ways))
        found = cells_in(fabric_from(rows))
        self.enter(desk, ("plan " + told(text), " ".join(plans)), (f"build {name}", f"{built.count()} {less.count()}"),
                   ("cells", str(len(cells.cells))), (f"place {seed}", f"{layout.side} {total_length(layout, nets_of(cells))}"),
                   ("route", f"{routes.tracks} {routes.length()}"), ("time", str(timing_of(cells, layout, routes, ways).longest)),
                   ("bits", f"{len(rows)} {rows[-2]} {rows[-1]}"), ("load", str(len(found.cells))))
        self.assertEqual((desk.layout.shown(), [cell.shown() for cell in desk.cells.cells]),
                         (layout.shown(), [cell.shown() for cell in cells.cells]))
        return found, built, less

    def test_plans_from_their_text_to_what_is_loaded(self):
        for text, name, seed in ((gray_text(5), "gray", 1), (product_text(4), "product", 7),
                                 (station_text(Size(4, 4), 2), "station", 3), (core_text(Size(3, 4)), "core", 99),
                                 (direct_text(parse_program("out in + 1"), 4), "direct", 0),
                                 ("\n\nplan p\n  in a 1 // a remark\n\n  out b 1\n  b = ~a\nend\n\n", "p", 4000000000)):
            desk, draw = Desk(), random.Random(seed)
            found, built, less = self.hold(desk, text, name, seed)
            self.enter(desk, ("same", "same"))
            run, above = CellRun(found), Run(built)
            for _ in range(30):
                ins = {one: draw.randrange(2 ** width) for one, width in parse_plans(text)[name].ins()}
                line = "beat " + " ".join(f"{one}={number}" for one, number in ins.items())
                outs = run.step(ins)
                self.assertEqual(above.step(ins), outs)
                self.enter(desk, (line, " ".join(f"{one}={outs[one]}" for one in sorted(outs))))
            self.assertIsNone(difference(built, less))

    def test_programs_and_the_machine(self):
        for seed in range(8):
            data, bits = (3, 4, 8, 4)[seed % 4], 7 + seed % 2
            drawing, size = ProgramDrawing(seed, data), Size(data, bits)
            program, coming = drawing.program(1), drawing.coming()
            desk = Desk()
            self.enter(desk, (f"size {data} {bits}", "done"))
            try:
                code = shortened(compile_program(program, size))
            except ChipError:
                self.errors(desk, "program " + told(program_text(program)))
                continue
            self.enter(desk, ("program " + told(program_text(program)), str(len(code))), ("core", "core"))
            self.assertEqual((desk.code, type(desk.code)), (code, tuple))
            self.assertNotIn("error", [desk.enter(line) for line in ("build core", *STEPS)])
            numbers = "".join(f" {number}" for number in coming)
            for beats in (0, 1, 50, 2000):
                machine, board = Machine(size, code, coming), Board(CellRun(desk.loaded.cells), size, code, coming)
                halts = board.run(beats)
                answer = " ".join([*map(str, board.sent), "halt" if halts else "on"])
                self.enter(desk, (f"run {beats}{numbers}", answer))
                if halts:
                    machine.run(5000)
                    self.assertEqual(machine.sent, board.sent)

    def test_a_whole_day(self):
        desk = Desk()
        self.enter(desk, ("size 4 6", "done"), (PROGRAM, "18"), ("core", "core"))
        self.assertNotIn("error", [desk.enter(line) for line in ("build core", *STEPS)])
        self.enter(desk, ("run 2000 1 2", "6 6 3 2 1 halt"), ("run 2000 17 18", "6 6 3 2 1 halt"), ("run 3", "on"), ("run 0", "on"),
                   ("run 20 1 2", "6 on"), ("same", "same"), ("beat code=0 data=0 come=0",
                                                          "at=0 send=0 stop=1 take=0 value=0 where=0 write=0"))
        self.enter(desk, ("program", "1"), ("run 1", "halt"), ("program out in / out 200", "5"), ("run 9 5", "5 8 halt"))

    def test_the_fast_machine_runs_as_well(self):
        size = Size(4, 6)
        desk = self.made("plan " + told(fast_text(size)), "fast", "size 4 6", PROGRAM)
        self.enter(desk, ("run 2000 1 2", "6 6 3 2 1 halt"))

    def test_beats_go_on_and_runs_begin_anew(self):
        desk = self.made("core", "core", "size 4 4", "program out in / out in")
        self.enter(desk, ("beat code=31 data=0 come=0", "at=0 send=0 stop=0 take=0 value=0 where=15 write=0"),
                   ("run 10 3 4", "3 4 halt"), ("beat code=176 data=0 come=0", "at=1 send=1 stop=0 take=0 value=15 where=0 write=0"),
                   ("run 10 3 4", "3 4 halt"), ("beat code=0 data=0 come=0", "at=2 send=0 stop=1 take=0 value=15 where=0 write=0"),
                   "load", ("beat code=0 data=0 come=0",
                                                  "at=0 send=0 stop=1 take=0 value=0 where=0 write=0"))

    def test_beats_up_to_the_most(self):
        desk = self.made("core", "core", "size 2 2", "program while 1 / end")
        self.enter(desk, ("run 2000", "on"), ("run 1999 1 2 3", "on"))
        self.errors(desk, "run 2001", "run 10000", "run 99999999999")

    def test_what_goes_out_without_names_or_numbers(self):
        desk = self.made("plan plan p / out y 1 / y = 1:1 / end", "p")
        self.enter(desk, ("beat", "y=1"), ("beat ", "y=1"))
        desk = self.made("plan plan p / in a 2 / end", "p")
        self.enter(desk, ("beat a=3", ""), ("same", "same"))
        self.errors(desk, "beat", "beat a=4", "beat b=1 a=1")

    def test_bits_of(self):
        self.assertEqual(bits_of([("a", 2), ("b", 1)]), [("a", 0), ("a", 1), ("b", 0)])
        self.assertEqual((bits_of(()), len(bits_of((("x", 32),)))), ([], 32))


class StepsTest(DeskCase):
    def test_each_line_ahead_of_what_it_needs(self):
        desk = Desk()
        lines = {"program out 1": "size 4 4", "core": "size 4 4", "build counter": "plan", "cells": "build", "place 1": "cells",
                 "route": "place 1", "time": "route", "bits": "route", "load": "bits", "beat go=1 by=1": "load", "run 5": "load",
                 "same": "build"}
        done = []
        for line in ("", "size 4 4", "core", COUNTER, "build counter", "cells", "place 1", "route", "bits", "load"):
            if line:
                self.assertNotEqual(desk.enter(line if line != COUNTER else "plan " + COUNTER), "error", line)
            done.append(line.split(" ")[0])
            for other, needs in lines.items():
                if needs.split(" ")[0] not in done:
                    self.errors(desk, other)
        self.enter(desk, ("beat go=1 by=1", "count=9"), ("same", "same"))
        # What is loaded is no machine of the size.
        self.errors(desk, "run 5")

    def test_a_program_and_a_core_need_a_size(self):
        desk = Desk()
        self.errors(desk, PROGRAM, "core", "run 5", "build core")
        self.enter(desk, ("size 4 6", "done"), (PROGRAM, "18"), ("core", "core"))

    def test_a_step_that_is_done_again_forgets_all_behind_it(self):
        behind = {"build counter": ("place 1", "route", "time", "bits", "load", "beat go=1 by=1"),
                  "cells": ("route", "time", "bits", "load", "beat go=1 by=1"),
                  "place 2": ("time", "bits", "load", "beat go=1 by=1"), "route": ("load", "beat go=1 by=1")}
        for line, forgotten in behind.items():
            desk = self.made("plan " + COUNTER, "counter")
            self.assertNotEqual(desk.enter(line), "error")
            self.errors(desk, *forgotten)
            self.enter(desk, ("same", "same"))

    def test_fields_that_are_forgotten(self):
        desk = Desk()
        self.assertEqual((desk.code, desk.cells, desk.layout), (None, None, None))
        desk = self.made("plan " + COUNTER, "counter", "size 4 4", "program out 1")
        self.assertEqual((len(desk.code), desk.cells is None, desk.layout is None), (3, False, False))
        desk.enter("cells")
        self.assertEqual((desk.cells is None, desk.layout is None), (False, True))
        desk.enter("build counter")
        self.assertEqual((len(desk.code), desk.cells, desk.layout), (3, None, None))
        desk.enter("size 5 5")
        self.assertIsNone(desk.code)

    def test_bits_let_stay_what_was_loaded(self):
        desk = self.made("plan " + COUNTER, "counter")
        self.enter(desk, ("beat go=1 by=2", "count=9"), "bits", ("beat go=1 by=3", "count=11"),
                   "time", ("same", "same"), ("beat go=0 by=3", "count=14"), "load",
                   ("beat go=0 by=3", "count=9"))

    def test_size_forgets_the_code_alone(self):
        desk = self.made("core", "core", "size 4 6", PROGRAM)
        self.enter(desk, ("run 2000", "5 4 3 2 1 halt"), ("size 4 6", "done"))
        self.errors(desk, "run 2000")
        self.enter(desk, (PROGRAM, "18"), ("run 2000", "5 4 3 2 1 halt"), ("size 4 5", "done"), (PROGRAM, "18"))
        # A machine of another size is loaded.
        self.errors(desk, "run 2000")
        self.enter(desk, ("beat code=0 data=0 come=0", "at=0 send=0 stop=1 take=0 value=0 where=0 write=0"), ("size 4 6", "done"),
                   (PROGRAM, "18"), ("run 2000", "5 4 3 2 1 halt"))

    def test_plans_and_cores_forget_nothing_that_was_built(self):
        desk = self.made("plan " + COUNTER, "counter", "size 4 4")
        self.enter(desk, ("core", "core"), ("beat go=1 by=1", "count=9"), ("plan plan p / out y 1 / y = 0:1 / end", "p"),
                   ("beat go=1 by=1", "count=10"), ("same", "same"), "cells")
        # The plans that were told last are those that are built.
        self.errors(desk, "build counter", "build core")
        self.assertNotEqual(desk.enter("build p"), "error")

    def test_an_error_forgets_nothing(self):
        desk = self.made("plan " + COUNTER, "counter", "size 4 4", "program out 1")
        self.errors(desk, "size 1 4", "program out", "plan plan p", "build none", "cells now", "place", "place x", "route 1", "time 1",
                    "bits 1", "load 1", "beat go=1", "run 10", "core 1", "same 1")
        self.enter(desk, ("beat go=1 by=1", "count=9"))


class WrongTest(DeskCase):
    def test_lines_that_are_none(self):
        desk = self.made("plan " + COUNTER, "counter", "size 4 4", "program out 1")
        self.errors(desk, "", " ", "x", "Size 4 4", "sizes 4 4", " size 4 4", "size", "size 4", "size 4 4 4", "size 1 4", "size 9 4",
                    "size 4 1", "size 4 9", "size a b", "size 04 4", "size -4 4", "size 4,4", "build", "build ", "build x",
                    "build counter counter", "place", "place ", "place 1 2", "place -1", "place 01", "place a", "cells 1", "route x",
                    "time x", "bits x", "load x", "same x", "core x", "build counter x", "halt", "exit", "help")

    def test_programs_and_plans_that_are_none(self):
        desk = Desk()
        desk.enter("size 4 4")
        self.errors(desk, "program out", "program out x", "program end", "program while 1", "program out 1 out 2", "program out 1/ out 2",
                    "program out 1 /", "program " + " / ".join(["out in + in"] * 20), "plan p", "plan plan p", "plan plan p / in a 1",
                    "plan plan p / in a 0 / end", "plan plan p / out a 1 / end", "plan plan p / end / plan p / end")
        self.enter(desk, ("program out 1 / out 2", "5"), ("plan plan p / end / plan q / end", "p q"), ("plan plan q / end", "q"))

    def test_beats_that_are_none(self):
        desk = self.made("plan " + COUNTER, "counter")
        self.errors(desk, "beat", "beat go=1", "beat by=1", "beat go=1 by", "beat go=1 by=", "beat go=1 by=x", "beat go=1 by=-1",
                    "beat go=1 by=01", "beat go=2 by=1", "beat go=1 by=8", "beat go=1 by=1 by=1", "beat go=1 by=1 x=1", "beat go=1 by=1 1",
                    "beat go=1,by=1", "beat go = 1 by = 1", "beat go=1 =1 by=1")
        self.enter(desk, ("beat by=7 go=1", "count=9"), ("beat go=0 by=0", "count=0"))

    def test_runs_that_are_none(self):
        desk = self.made("core", "core", "size 4 4", "program out in")
        self.errors(desk, "run", "run ", "run x", "run -1", "run 2001", "run 10 x", "run 10 -1", "run 10 01", "run 010", "run 10,1")
        self.enter(desk, ("run 10 99", "3 halt"), ("run 10 1 2 3 4", "1 halt"))

    def test_circuits_that_are_no_machines_of_the_size(self):
        size = Size(4, 4)
        for text, name in ((core_text(Size(4, 5)), "core"), (core_text(Size(5, 4)), "core"), (gray_text(4), "gray"),
                           (core_text(size).replace("  out stop 1\n", "").replace("  stop = word == 0:4\n", ""), "core"),
                           (core_text(size).replace("  in come 4\n", "  in come 4\n  in more 1\n"), "core")):
            desk = self.made("plan " + told(text), name, "size 4 4", "program out in")
            self.errors(desk, "run 10", "run 0")

    def test_circuits_that_are_too_large(self):
        desk = Desk()
        lines = [f"in a{at} 32" for at in range(6)] + ["in b 10", "out y 1", "y = any(a0)"]
        self.assertEqual(desk.enter("plan " + " / ".join(["plan p", *lines, "end"])), "p")
        self.assertNotEqual(desk.enter("build p"), "error")
        # More than two hundred bits are not compared, and more pads than there are places are not placed.
        self.errors(desk, "same")
        lines = [f"in a{at} 32" for at in range(3)] + ["out y 1", "y = any(a0)"]
        self.enter(desk, "plan " + " / ".join(["plan p", *lines, "end"]), "build p", "cells", ("same", "same"))
        self.errors(desk, "place 1", "route")

    def test_a_size_whose_core_takes_too_many_nodes(self):
        desk = Desk()
        self.assertEqual([desk.enter(line) for line in ("size 8 8", "core", "build core")][:2], ["done", "core"])
        self.errors(desk, "same")

    def test_beat_and_run_raise(self):
        desk = Desk()
        for rest in ("", "go=1"):
            self.assertRaises(RunError, desk.beat, rest)
            self.assertRaises(RunError, desk.run, rest)
        desk = self.made("plan " + COUNTER, "counter", "size 4 4", "program out 1")
        for rest in ("", "go=1", "go=1 by=9"):
            self.assertRaises(RunError, desk.beat, rest)
        for rest in ("", "2001", "10", "x"):
            self.assertRaises(RunError, desk.run, rest)
        self.assertEqual(desk.beat("go=1 by=1"), "count=9")
        desk = self.made("core", "core", "size 4 4", "program out 1")
        self.assertEqual((desk.run("10"), desk.run("2")), ("1 halt", "1 on"))


if __name__ == "__main__":
    unittest.main()
