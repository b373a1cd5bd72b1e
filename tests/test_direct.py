"""Point 27: programs as circuits of their own."""

import random
import unittest

from chipstack.building import build
from chipstack.compiling import compile_program
from chipstack.direct import Maker, direct_text, run_direct
from chipstack.errors import CodeError
from chipstack.gates import Run
from chipstack.isa import Machine, Size
from chipstack.plans import parse_plans
from chipstack.programs import Program, parse_program
from chipstack.simplifying import simplified
from chipstack.tables import CellRun, cells_of
from tests.levels import all_runs, found_run
from tests.machine import ProgramDrawing, nodes_in
from tests.reckoned import Reckoned

WORDS = ("plan", "keep", "let", "use", "of", "then", "wide", "all", "any", "state", "come", "value", "send", "take", "stop",
         "n0", "r0x1", "t0", "come0")


def built(program, data):
    """Return the circuit of a program as it is built."""
    return build(parse_plans(direct_text(program, data)), "direct")


def sent_by(text, data=4, coming=()):
    """Return what the circuit of a text sends; it is tested that it stops, and sends what the program means."""
    program = parse_program(text)
    sent, stops = run_direct(Run(built(program, data)), data, coming, 5000)
    assert stops and list(sent) == Reckoned(program, data, coming).run().sent, (text, sent)
    return list(sent)


def drawn_tree(draw, names, rows, nodes):
    """Draw an expression of so many nodes."""
    if nodes == 1:
        return draw.choice([("in",), ("number", draw.randrange(999)), ("name", draw.choice(names))])
    if nodes == 2 or draw.random() < 0.3:
        if rows and draw.random() < 0.6:
            return ("at", draw.choice(rows), drawn_tree(draw, names, rows, nodes - 1))
        return ("half", drawn_tree(draw, names, rows, nodes - 1))
    first = draw.randint(1, nodes - 2)
    return ("op", draw.choice(["+", "-", "&", "^", "==", "!=", "<"]), drawn_tree(draw, names, rows, first),
            drawn_tree(draw, names, rows, nodes - 1 - first))


def drawn_body(draw, names, rows, nodes):
    """Draw statements of so many nodes in all."""
    found = []
    while nodes > 0:
        many = nodes if nodes < 4 else draw.randint(2, nodes - 2)
        kind = draw.choice(["out", "put", "if", "while", "put_at"])
        if kind == "put_at" and rows and many > 2:
            first = draw.randint(1, many - 2)
            found.append(("put_at", draw.choice(rows), drawn_tree(draw, names, rows, first),
                          drawn_tree(draw, names, rows, many - 1 - first)))
        elif kind in ("if", "while") and many > 4:
            inner = draw.randint(2, many - 2)
            body = drawn_body(draw, names, rows, inner)
            tree = drawn_tree(draw, names, rows, many - 1 - inner)
            found.append(("if", tree, body, ()) if kind == "if" else ("while", tree, body))
        elif many == 1:
            break
        elif kind == "put":
            found.append(("put", draw.choice(names), drawn_tree(draw, names, rows, many - 1)))
        else:
            found.append(("out", drawn_tree(draw, names, rows, many - 1)))
        nodes -= many
    return tuple(found)


class PlanTest(unittest.TestCase):
    def test_names_and_widths(self):
        for data in range(2, 9):
            plans = parse_plans(direct_text(parse_program("var a = 3\nrows r 2\nr[a] = in\nout r[1]"), data))
            self.assertEqual(list(plans), ["direct"])
            self.assertEqual((plans["direct"].ins(), sorted(plans["direct"].gives())),
                             ((("come", data),), [("send", 1), ("stop", 1), ("take", 1), ("value", data)]))

    def test_names_of_programs_that_are_words_of_plans(self):
        for at, name in enumerate(WORDS):
            row = WORDS[at - 1]
            text = f"var {name} = 5\nrows {row} 2\n{row}[1] = {name} + in\n{name} = {row}[1]\nout {name}\nout {row}[0]"
            self.assertEqual(sent_by(text, 4, [3]), [8, 0])
        names = ["a" * 20, "z" + "9" * 19]
        self.assertEqual(sent_by(f"var {names[0]} = 5\nrows {names[1]} 1\n{names[1]}[0] = 6\nout {names[0]} + {names[1]}[0]"), [11])


class MeaningTest(unittest.TestCase):
    def test_statements(self):
        self.assertEqual(sent_by(""), [])
        self.assertEqual(sent_by("out 3\nout 17\nout 999", 4), [3, 1, 999 % 16])
        self.assertEqual(sent_by("var a = 20\nout a\na = a + a\nout a", 4), [4, 8])
        self.assertEqual(sent_by("var a = 5\nif a\nout 1\nelse\nout 2\nend\nif a - 5\nout 3\nelse\nout 4\nend\nif 0\nend\nout 5"),
                         [1, 4, 5])
        self.assertEqual(sent_by("if 1\nif 0\nout 1\nelse\nout 2\nend\nelse\nout 3\nend\nif 1\nelse\nout 4\nend"), [2])

    def test_expressions(self):
        self.assertEqual(sent_by("out 7 - 9\nout 12 & 10 ^ 5\nout 3 == 3\nout 3 != 3\nout 3 < 4\nout 4 < 3\nout half(7)"),
                         [14, 13, 1, 0, 1, 0, 3])
        self.assertEqual(sent_by("var a = 9\nout a - 2 - 3\nout a - (2 - 3)\nout (a < 10) + (a == 9)\nout half(half(a) + a)"),
                         [4, 10, 2, 6])

    def test_loops(self):
        self.assertEqual(sent_by("while 0\nout 1\nend\nout 2"), [2])
        self.assertEqual(sent_by("var n = 3\nwhile n\nout n\nn = n - 1\nend"), [3, 2, 1])
        text = "var n = 3\nvar m = 0\nwhile n\nm = n\nwhile m\nout n + m\nm = m - 1\nend\nn = n - 1\nend\nout 15"
        self.assertEqual(sent_by(text), [6, 5, 4, 4, 3, 2, 15])
        self.assertEqual(sent_by("while in\nout in\nend\nout in", 4, [1, 7, 2, 8, 0, 9]), [7, 8, 9])
        self.assertEqual(sent_by("while in < in\nend\nout in", 4, [1, 2, 3, 4, 4, 4, 5]), [5])

    def test_what_comes_in_within_an_expression(self):
        self.assertEqual(sent_by("out in - in\nout in", 4, [9, 3, 5]), [6, 5])
        self.assertEqual(sent_by("rows r 4\nr[in] = in - in\nout r[2]\nout r[in]", 4, [2, 9, 4, 1]), [5, 0])
        self.assertEqual(sent_by("if in == in\nout in\nelse\nout in + in\nend", 4, [3, 3, 7]), [7])
        self.assertEqual(sent_by("if in == in\nout in\nelse\nout in + in\nend", 4, [3, 4, 7, 8]), [15])
        self.assertEqual(sent_by("out half(in) + (in & in)", 4, [9, 13, 6, 1]), [8])
        self.assertEqual(sent_by("out in\nout in\nout in", 2, [7, 300]), [3, 0, 0])

    def test_rows(self):
        self.assertEqual(sent_by("rows r 1\nr[0] = 5\nout r[0]\nr[3] = 6\nout r[9]\nout r[0]"), [5, 6, 6])
        text = "rows r 16\nvar n = 15\nwhile n\nr[n] = n + n + 1\nn = n - 1\nend\nr[0] = 99\nn = 15\nwhile n\nout r[n]\nn = n - 1\nend\nout r[0]"
        self.assertEqual(sent_by(text, 8), [*range(31, 1, -2), 99])
        self.assertEqual(sent_by(text, 4), [number % 16 for number in [*range(31, 1, -2), 99]])

    def test_places_just_within_and_beyond(self):
        for many in (1, 2, 3, 5, 8, 15, 16):
            for data in (4, 5, 8):
                last = many - 1
                text = f"rows r {many}\nrows s {many}\n"
                for place in (last, many, many + 1, 2 ** data - 1):
                    text += f"r[{place}] = {place}\nout r[{last}]\nout r[{place}]\ns[0] = s[{place}]\nout s[0]\n"
                program = parse_program(text)
                sent = run_direct(Run(built(program, data)), data, (), 500)[0]
                self.assertEqual(list(sent), Reckoned(program, data).run().sent)
        self.assertEqual(sent_by("rows r 3\nr[2] = 5\nout r[3]\nout r[in]\nr[in] = 6\nout r[2]\nout r[1]", 4, [15, 9]), [5, 5, 6, 0])

    def test_drawn_programs_on_all_levels_and_the_machine(self):
        for seed in range(60):
            data = (2, 3, 4, 5, 8)[seed % 5]
            drawing = ProgramDrawing(seed, 2 if data == 2 else 8)
            drawing.data = data
            program, coming = drawing.program(1 + seed % 3), drawing.coming()
            self.hold(program, data, coming, seed)

    def hold(self, program, data, coming, seed):
        """Hold a program's circuits against its meaning, and against the machine where it fits that."""
        meaning = Reckoned(program, data, coming).run()
        netlist = built(program, data)
        less = simplified(netlist)
        runs = [Run(netlist), Run(less), CellRun(cells_of(less))]
        if seed % 20 == 7:
            runs = all_runs(direct_text(program, data), "direct", seed)
        for run in runs:
            given = list(coming)
            sent, stops = run_direct(run, data, given, 20000)
            self.assertEqual((list(sent), stops, given), (meaning.sent, True, coming), seed)
        try:
            machine = Machine(Size(data, 8), compile_program(program, Size(data, 8)), coming)
        except CodeError:
            return
        self.assertIs(machine.run(100000), True)
        self.assertEqual((list(machine.sent), machine.coming), (meaning.sent, meaning.coming))


class BeatsTest(unittest.TestCase):
    def test_a_beat_at_least_for_each_statement(self):
        for seed in range(30):
            drawing = ProgramDrawing(seed, 4)
            program = drawing.program(2)
            if seed % 2:
                program = Program(drawing.numbers, drawing.rows, drawing.block(0))
            meaning = Reckoned(program, 4).run()
            run, beats = Run(built(program, 4)), 0
            while not run.step({"come": 0})["stop"]:
                beats += 1
            self.assertGreaterEqual(beats, meaning.many)
            self.assertLess(beats, 30 * meaning.many + 30)

    def test_it_stops_and_stays(self):
        for text, data in (("", 2), ("out 1", 4), ("var n = 2\nwhile n\nn = n - 1\nend", 3)):
            run = Run(built(parse_program(text), data))
            while not run.step({"come": 1})["stop"]:
                pass
            for _ in range(5):
                outs = run.step({"come": 1})
                self.assertEqual((outs["stop"], outs["send"], outs["take"]), (1, 0, 0))
        # An empty program stops in its first beat.
        self.assertEqual(Run(built(parse_program(""), 2)).step({"come": 0})["stop"], 1)

    def test_a_loop_that_never_ends(self):
        run = Run(built(parse_program("while 1\nout in\nend"), 4))
        sent, stops = run_direct(run, 4, [5, 6], 60)
        self.assertEqual((sent[:4], stops), ((5, 6, 0, 0), False))
        self.assertGreater(len(sent), 9)


class FittingTest(unittest.TestCase):
    def test_the_greatest_programs_that_fit(self):
        held = 0
        for seed in range(80):
            draw = random.Random(seed)
            numbers = {f"v{at}": draw.randrange(300) for at in range(draw.randint(1, 7))}
            rows = {"row": 8 - len(numbers)}
            data = draw.choice([3, 4, 8])
            program = Program(numbers, rows, drawn_body(draw, sorted(numbers), sorted(rows), 25))
            self.assertLessEqual(nodes_in(program), 25)
            held += nodes_in(program) == 25
            netlist = built(program, data)
            coming = [draw.randrange(300) for _ in range(40)]
            try:
                meaning = Reckoned(program, data, coming).run(most=400)
            except (OverflowError, RecursionError):
                continue
            sent, stops = run_direct(Run(netlist), data, coming, 20000)
            self.assertEqual((list(sent), stops), (meaning.sent, True))
        self.assertGreater(held, 40)

    def test_programs_of_one_kind_that_fit(self):
        for lines in (["out in"] * 12, ["v = in"] * 12, ["r[in] = in"] * 8, ["while in"] * 12 + ["end"] * 12,
                      ["if in"] * 12 + ["end"] * 12, ["out " + "half(" * 11 + "in" + ")" * 11, "out r[r[r[r[in]]]]"],
                      ["out " + "+".join(["in"] * 12)], ["if in", "else"] + ["out v"] * 11 + ["end"]):
            program = parse_program("\n".join(["var v = 3", "rows r 7", *lines]))
            self.assertLessEqual(nodes_in(program), 25)
            for data in (3, 8):
                found_run(simplified(built(program, data)))
                coming = [5, 4, 3, 2, 1] * 3
                sent, stops = run_direct(Run(built(program, data)), data, coming, 20000)
                self.assertEqual((list(sent), stops), (Reckoned(program, data, coming).run(most=1000).sent, True))

    def test_too_large(self):
        for line in ("out in + in", "v = in - in", "r[in] = in", "if in < in\nend"):
            self.assertRaises(CodeError, direct_text, parse_program("\n".join(["var v = 1", "rows r 2", *[line] * 200])), 4)
        self.assertRaises(CodeError, direct_text, parse_program("\n".join(["out 1"] * 1000)), 4)
        self.assertRaises(CodeError, direct_text, parse_program("\n".join([f"var v{at} = 1" for at in range(400)])), 4)

    def test_middling_programs_are_plans(self):
        for line in ("out in + in", "v = v + 1", "r[v] = r[in] + 1", "if v < in\nout v\nend", "while 0\nend"):
            for many in (10, 40, 60, 80, 120):
                program = parse_program("\n".join(["var v = 1", "rows r 16", *[line] * many]))
                try:
                    text = direct_text(program, 8)
                except CodeError:
                    self.assertGreater(many, 40)
                    continue
                sent, stops = run_direct(Run(build(parse_plans(text), "direct")), 8, [7, 9, 200], 2000)
                self.assertEqual((list(sent), stops), (Reckoned(program, 8, [7, 9, 200]).run().sent, True))

    def test_sizes_that_are_none(self):
        program = parse_program("out 1")
        for data in (-1, 0, 1, 9, 16):
            self.assertRaises(CodeError, direct_text, program, data)
        for many, data in ((0, 4), (17, 8), (5, 2), (9, 3), (999, 8)):
            self.assertRaises(CodeError, direct_text, parse_program(f"rows r {many}\nout 1"), data)
        for many, data in ((1, 2), (4, 2), (8, 3), (16, 4), (16, 8)):
            parse_plans(direct_text(parse_program(f"rows r {many}\nout r[0]\nr[1] = 2"), data))

    def test_names_that_are_unknown(self):
        for row in (("out", ("name", "x")), ("put", "x", ("number", 1)), ("put", "r", ("number", 1)), ("out", ("at", "v", ("in",))),
                    ("put_at", "v", ("in",), ("in",)), ("while", ("op", "+", ("in",), ("name", "r")), ())):
            self.assertRaises(CodeError, direct_text, Program({"v": 1}, {"r": 2}, [row]), 4)

    def test_what_is_given_stays(self):
        program = ProgramDrawing(3, 4).program(3)
        shown = program.shown()
        direct_text(program, 4)
        self.assertEqual(program.shown(), shown)


class MakerTest(unittest.TestCase):
    def test_steps(self):
        maker = Maker(parse_program("var a = 1"), 5)
        self.assertEqual(maker.data, 5)
        self.assertEqual([maker.add(None), maker.add(("out", "1:5")), maker.add(None, 0), maker.add(("in", "x"), ("1:1", 0, 2))],
                         [0, 1, 2, 3])

    def test_too_many_steps(self):
        maker = Maker(parse_program(""), 4)
        most = 0
        with self.assertRaises(CodeError):
            for most in range(10000):
                self.assertEqual(maker.add(None), most)
        # All that fit are still there, and no more does.
        self.assertRaises(CodeError, maker.add, ("out", "1:4"), 0)
        self.assertLess(most, 600)
        self.assertGreater(most, 50)


class Told:
    """A circuit that tells rows of its own, one in each beat."""

    def __init__(self, rows):
        self.rows, self.came = list(rows), []

    def step(self, ins):
        """Return the next row."""
        self.came.append(ins["come"])
        return dict(zip(("value", "send", "take", "stop"), self.rows.pop(0)))


class RunDirectTest(unittest.TestCase):
    def test_what_is_sent_and_taken(self):
        rows = [(5, 0, 0, 0), (6, 1, 0, 0), (7, 0, 1, 0), (8, 1, 1, 0), (9, 0, 1, 0), (3, 0, 0, 1), (2, 1, 0, 0)]
        told = Told(rows)
        self.assertEqual(run_direct(told, 4, [17, 2], 100), ((6, 8), True))
        self.assertEqual((told.came, len(told.rows)), ([1, 1, 1, 2, 0, 0], 1))
        for most, sent, stops in ((0, (), False), (2, (6,), False), (5, (6, 8), False), (6, (6, 8), True)):
            self.assertEqual(run_direct(Told(rows), 4, (1, 2), most), (sent, stops))


if __name__ == "__main__":
    unittest.main()
