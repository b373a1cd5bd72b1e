"""Point 14: what programs mean, how they are compiled, and shortened code."""

import random
import unittest

from chipstack.compiling import Compiler, compile_program, is_idle, shortened, without
from chipstack.errors import CodeError
from chipstack.isa import Machine, Size, check_instruction
from chipstack.programs import Program, parse_program
from tests.machine import GOING, Meaning, OwnMachine, ProgramDrawing, drawn_code, nodes_in

BIG = Size(8, 8)


def ran(code, size, coming=(), most=20000):
    """Return a machine that carried out code up to its halt."""
    machine = Machine(size, code, coming)
    assert machine.run(most)
    return machine


def sent_by(text, coming=(), size=BIG):
    """Return what a program sends out."""
    return ran(compile_program(parse_program(text), size), size, coming).sent


class MeaningTest(unittest.TestCase):
    def test_each_operation_on_all_numbers(self):
        size = Size(2, 8)
        signs = ("+", "-", "&", "^", "==", "!=", "<")
        for sign in signs:
            code = compile_program(parse_program(f"out in {sign} in"), size)
            for one in range(4):
                for other in range(4):
                    told = {"+": one + other, "-": one - other, "&": one & other, "^": one ^ other, "==": one == other,
                            "!=": one != other, "<": one < other}[sign]
                    self.assertEqual(ran(code, size, [one, other]).sent, [int(told) % 4], (sign, one, other))

    def test_half_rounds_down(self):
        self.assertEqual(sent_by("out half(in)\nout half(in)\nout half(in)", [7, 255, 0]), [3, 127, 0])

    def test_values_have_so_many_bits(self):
        for data in range(2, 9):
            size = Size(data, 8)
            self.assertEqual(sent_by("var a = 999\nout a\nout 999\nout in\nout a - a - 1", [999], size),
                             [999 % 2 ** data] * 3 + [2 ** data - 1])

    def test_anything_but_0_counts_as_true(self):
        for value, told in ((0, [2]), (1, [1]), (2, [1]), (128, [1]), (255, [1])):
            self.assertEqual(sent_by("if in\nout 1\nelse\nout 2\nend", [value]), told)
        self.assertEqual(sent_by("var a = 4\nwhile a\nout a\na = half(a)\nend"), [4, 2, 1])
        self.assertEqual(sent_by("var a = 0\nwhile a\nout a\nend\nif a\nout 1\nend"), [])

    def test_left_sides_and_places_first(self):
        self.assertEqual(sent_by("out in - in", [9, 4]), [5])
        self.assertEqual(sent_by("out in < in", [4, 9]), [1])
        self.assertEqual(sent_by("out (in - in) - (in - in)", [9, 4, 3, 2]), [4])
        self.assertEqual(sent_by("rows r 4\nr[in] = in\nout r[0]\nout r[3]", [3, 7]), [0, 7])
        self.assertEqual(sent_by("rows r 4\nr[2] = 5\nout r[in] + in", [2, 1]), [6])

    def test_what_comes_in_behind_the_last_number(self):
        self.assertEqual(sent_by("out in\nout in\nout in", [5]), [5, 0, 0])

    def test_rows_begin_with_zeros_and_stand_behind_numbers(self):
        program = parse_program("var b = 7\nrows s 3\nvar a = 9\nrows r 2\ns[0] = 1\ns[2] = 2\nr[1] = 3")
        compiler = Compiler(BIG, program)
        self.assertEqual(compiler.places, {"a": 0, "b": 1, "r": 2, "s": 4})
        memory = ran(compile_program(program, BIG), BIG).memory
        self.assertEqual(memory[:7], [9, 7, 0, 3, 1, 0, 2])

    def test_a_place_beyond_a_rows_size(self):
        text = "var a = 9\nrows r 2\nrows s 2\nr[2] = 5\nr[3] = 6\nout s[0]\nout s[1]\nout r[3]\nout s[255]\nout r[255]"
        self.assertEqual(sent_by(text), [5, 6, 6, 0, 9])
        # The last place of memory is followed by the first one.
        self.assertEqual(sent_by("var a = 3\nrows r 2\nout r[3]", size=Size(2, 8)), [3])

    def test_rows_within_places_and_of_nothing(self):
        self.assertEqual(sent_by("rows r 3\nr[0] = 1\nr[1] = 2\nr[2] = 7\nout r[r[r[0]]]\nout r[r[1] - 1] + r[half(r[1])]"),
                         [7, 4])
        self.assertEqual(sent_by("var a = 5\nrows r 0\nrows s 1\ns[0] = 6\nout r[0]"), [6])

    def test_loops_that_never_run_and_nest(self):
        text = ("var i = 0\nvar j = 0\nwhile i < 3\n  j = 0\n  while j < i\n    out i + j\n    j = j + 1\n  end\n"
                "  i = i + 1\nend\nwhile 0\nout 99\nend\nout 0")
        self.assertEqual(sent_by(text), [1, 2, 3, 0])

    def test_an_empty_program(self):
        self.assertEqual(compile_program(Program({}, {}, ()), Size(2, 2)), (("halt", 0),))
        self.assertEqual(compile_program(parse_program("var a = 0\nrows r 3"), Size(2, 2))[-1], ("halt", 0))

    def test_drawn_programs(self):
        fitted = 0
        for seed in range(300):
            data = 2 + seed % 7
            drawing = ProgramDrawing(seed, data)
            program, coming, size = drawing.program(3), drawing.coming(), Size(data, 8)
            try:
                code = compile_program(program, size)
            except CodeError:
                continue
            fitted += 1
            self.assertIs(type(code), tuple)
            for row in code:
                check_instruction(row, size)
            meaning = Meaning(program, data, coming).run()
            self.assertEqual(code[-1], ("halt", 0))
            for one in (code, shortened(code)):
                machine = ran(one, size, coming)
                self.assertEqual((machine.sent, machine.coming), (meaning.sent, meaning.coming), seed)
                self.assertEqual(machine.memory[:meaning.named], meaning.memory[:meaning.named])
        self.assertGreater(fitted, 150)


class FitsTest(unittest.TestCase):
    def test_programs_that_fit_by_the_count(self):
        for seed in range(300):
            data = 2 + seed % 7
            program = ProgramDrawing(seed, data).program(1 + seed % 3)
            numbers, rows, _ = program.shown()
            many = nodes_in(program)
            memory = len(numbers) + sum(size for _, size in rows) + many
            code = 10 * many + 2 * len(numbers) + 2
            for bits in range(2, 9):
                if memory <= 2 ** data and code <= 2 ** bits:
                    self.assertLessEqual(len(compile_program(program, Size(data, bits))), code)

    def test_deep_expressions_take_one_place_for_each(self):
        # Each one is of as many statements and expressions as there are places left.
        for text, many in (("out in", 2), ("out in + in", 4), ("out in - in", 4), ("var a = 1\nout a < 1", 5),
                           ("rows r 1\nr[0] = 3", 4), ("out half(half(1))", 4)):
            self.assertGreater(len(compile_program(parse_program(text), Size(3 if many > 4 else 2, 8))), 1)

    def test_memory(self):
        for data in (2, 3):
            fits = "".join(f"var v{at} = {at}\n" for at in range(2 ** data))
            memory = ran(compile_program(parse_program(fits), Size(data, 8)), Size(data, 8)).memory
            self.assertEqual(memory, list(range(2 ** data)))
            self.assertRaises(CodeError, compile_program, parse_program(fits + "var w = 0"), Size(data, 8))
            self.assertRaises(CodeError, Compiler, Size(data, 8), parse_program(fits + "var w = 0"))
            # No place is left for what an operation holds.
            self.assertRaises(CodeError, compile_program, parse_program(fits + "out v0 + v1"), Size(data, 8))
            self.assertRaises(CodeError, compile_program, parse_program(fits + "rows r 1"), Size(data, 8))
            self.assertRaises(CodeError, compile_program, parse_program(f"rows r {2 ** data + 1}"), Size(data, 8))
            compile_program(parse_program(f"rows r {2 ** data}"), Size(data, 8))
        self.assertRaises(CodeError, compile_program, parse_program("rows r 999"), BIG)

    def test_code(self):
        for bits in range(2, 9):
            long, code = "", ()
            while True:
                try:
                    code = compile_program(parse_program(long), Size(4, bits))
                except CodeError:
                    break
                self.assertLessEqual(len(code), 2 ** bits)
                long += "out 1\n"
            # What fits is filled, up to the two instructions of another statement.
            self.assertEqual((len(code), code[-1]), (2 ** bits - 1, ("halt", 0)))
            just = "out in\n" * (2 ** (bits - 1) - 1)
            self.assertEqual(len(compile_program(parse_program(just), Size(4, bits))), 2 ** bits - 1)
            self.assertRaises(CodeError, compile_program, parse_program(just + "out in"), Size(4, bits))

    def test_code_that_fills_every_place(self):
        code = compile_program(parse_program("if in\nend\nout 1"), Size(2, 8))
        size = Size(2, 3)
        self.assertEqual(len(code), 5)
        self.assertEqual(compile_program(parse_program("if in\nend\nout 1"), size), code)
        full = compile_program(parse_program("if in\nout half(1)\nend\nout 1"), size)
        self.assertEqual(len(full), 8)
        self.assertEqual([ran(full, size, [bit]).sent for bit in (0, 1)], [[1], [0, 1]])

    def test_what_is_given_stays(self):
        program = parse_program("var a = 1\nrows r 2\nif a\nr[a] = a\nend")
        shown = program.shown()
        compile_program(program, BIG)
        self.assertRaises(CodeError, compile_program, program, Size(2, 2))
        self.assertEqual(program.shown(), shown)


class CompilerTest(unittest.TestCase):
    def setUp(self):
        self.compiler = Compiler(Size(4, 6), parse_program("var a = 1\nvar b = 0\nrows r 3"))

    def test_at_the_beginning(self):
        self.assertEqual((self.compiler.places, self.compiler.code), ({"a": 0, "b": 1, "r": 2}, []))
        self.assertEqual((self.compiler.free, self.compiler.deepest), (5, 5))

    def test_places_are_free_again(self):
        tree = ("op", "-", ("at", "r", ("in",)), ("op", "+", ("in",), ("in",)))
        for _ in range(3):
            self.compiler.expression(tree)
            self.assertEqual((self.compiler.free, self.compiler.deepest), (5, 7))
        text = "rows r 2\n" + "r[in] = in + in\nout r[in]\n" * 9
        self.assertEqual(len(ran(compile_program(parse_program(text), Size(3, 8)), Size(3, 8)).sent), 9)

    def test_adding(self):
        self.compiler.add("set", 3)
        self.compiler.add("out")
        self.assertEqual(self.compiler.code, [("set", 3), ("out", 0)])

    def test_labels(self):
        self.compiler.add("jump", ("there", 1))
        self.compiler.add("out")
        self.compiler.here(("there", 1))
        self.assertEqual(self.compiler.code[0], ("jump", ("there", 1)))
        self.assertEqual(self.compiler.labels, {("there", 1): 2})

    def test_expressions(self):
        for text, coming, value in (("a + 3", [], 4), ("in - in", [3, 5], 14), ("r[in]", [0], 0), ("half(in)", [9], 4),
                                    ("a == 1", [], 1), ("19", [], 3)):
            compiler = Compiler(Size(4, 6), parse_program("var a = 1\nvar b = 0\nrows r 3"))
            compiler.add("set", 1)
            compiler.add("store", compiler.places["a"])
            tree = parse_program("var a = 1\nrows r 3\nout " + text).body[0][1]
            compiler.expression(tree)
            compiler.add("out")
            code = [(word, compiler.labels.get(number, number)) for word, number in compiler.code]
            self.assertEqual(ran(code, Size(4, 6), coming).sent, [value], text)

    def test_wrong_ones_change_nothing(self):
        self.compiler.expression(("name", "a"))
        deep = ("in",)
        for _ in range(30):
            deep = ("op", "+", ("in",), deep)
        for tree in (("name", "c"), ("at", "t", ("in",)), ("op", "+", ("name", "a"), ("name", "c")), deep):
            self.assertRaises(CodeError, self.compiler.expression, ("op", "-", ("op", "==", ("in",), ("in",)), tree))
            self.assertRaises(CodeError, self.compiler.expression, tree)
            self.assertEqual((self.compiler.code, self.compiler.labels), ([("load", 0)], {}))
            self.assertEqual((self.compiler.free, self.compiler.deepest), (5, 5))


class ShortenedTest(unittest.TestCase):
    def test_loads_behind_a_store(self):
        code = (("in", 0), ("store", 3), ("load", 3), ("out", 0), ("load", 3), ("store", 2), ("load", 3), ("load", 2))
        self.assertEqual(shortened(code), (("in", 0), ("store", 3), ("out", 0), ("load", 3), ("store", 2), ("load", 3),
                                           ("load", 2)))
        self.assertEqual(shortened((("store", 1), ("load", 1), ("load", 1), ("load", 1))), (("store", 1),))

    def test_jumps_to_the_next_place(self):
        self.assertEqual(shortened((("jump", 1), ("out", 0), ("zero", 3), ("less", 4), ("halt", 0))),
                         (("out", 0), ("halt", 0)))
        # What stands ahead of what went may be idle only then.
        self.assertEqual(shortened((("jump", 2), ("jump", 2), ("out", 0))), (("out", 0),))
        # Once the jump is gone nothing goes to the load any more.
        self.assertEqual(shortened((("store", 0), ("jump", 2), ("load", 0), ("out", 0))), (("store", 0), ("out", 0)))

    def test_what_a_jump_goes_to_stays(self):
        code = (("store", 1), ("load", 1), ("out", 0), ("jump", 1))
        self.assertEqual(shortened(code), code)
        code = (("less", 2), ("set", 1), ("jump", 3), ("halt", 0))
        self.assertEqual(shortened(code), code)
        for word in GOING:
            code = (("in", 0), ("store", 1), ("load", 1), (word, 2), ("halt", 0))
            self.assertEqual(shortened(code), code)

    def test_jumps_are_turned(self):
        code = (("zero", 4), ("store", 1), ("load", 1), ("less", 1), ("out", 0), ("jump", 0), ("jump", 40))
        self.assertEqual(shortened(code), (("zero", 3), ("store", 1), ("less", 1), ("out", 0), ("jump", 0), ("jump", 39)))

    def test_nothing_idle(self):
        for code in ((), (("halt", 0),), (("load", 0), ("store", 0), ("load", 1)), (("jump", 0),), (("jump", 2), ("out", 0)),
                     (("store", 0), ("set", 1), ("load", 0)), (("add", 0), ("load", 0)), (("set", 2), ("out", 0))):
            self.assertEqual(shortened(code), code)
            self.assertEqual([is_idle(code, place) for place in range(len(code))], [False] * len(code))

    def test_is_idle(self):
        code = (("store", 1), ("load", 1), ("jump", 3), ("load", 1), ("load", 1), ("store", 2), ("load", 2), ("zero", 6))
        self.assertEqual([is_idle(code, place) for place in range(8)],
                         [False, True, True, False, False, False, False, False])
        self.assertIs(is_idle((("load", 1), ("store", 1)), 0), False)

    def test_without(self):
        code = (("jump", 0), ("zero", 1), ("less", 2), ("jump", 3), ("set", 3), ("load", 9))
        self.assertEqual(without(code, 1), (("jump", 0), ("less", 1), ("jump", 2), ("set", 3), ("load", 9)))
        self.assertEqual(without(code, 5), code[:5])
        self.assertEqual(without((("jump", 1), ("out", 0), ("in", 0)), 1), (("jump", 1), ("in", 0)))
        self.assertEqual(without(list(code), 0), (("zero", 0), ("less", 1), ("jump", 2), ("set", 3), ("load", 9)))

    def test_drawn_code_does_the_same(self):
        for seed in range(200):
            draw = random.Random(seed)
            code = []
            for row in drawn_code(draw, 3, 5, draw.randint(1, 14)):
                code.append(row)
                if row[0] == "store" and draw.random() < 0.7:
                    code.append(("load", row[1]))
                if draw.random() < 0.15:
                    code.append((draw.choice(GOING), len(code) + 1))
            code = tuple((word, number % len(code)) if word in GOING and draw.random() < 0.9 and number > len(code)
                         else (word, number) for word, number in code) + (("halt", 0),)
            short = shortened(code)
            self.assertLessEqual(len(short), len(code))
            coming = [draw.randrange(8) for _ in range(9)]
            one, other = OwnMachine(3, 5, code, coming), OwnMachine(3, 5, short, coming)
            for machine in (one, other):
                for _ in range(400):
                    if not machine.halted:
                        machine.step()
            if one.halted:
                self.assertEqual((one.memory, one.sent, one.acc, one.carry), (other.memory, other.sent, other.acc,
                                                                              other.carry), seed)
                self.assertTrue(other.halted)
            if one.sent and not one.halted:
                many = min(len(one.sent), len(other.sent))
                self.assertEqual(one.sent[:many], other.sent[:many])
            for place in range(len(short)):
                self.assertIs(is_idle(short, place), False)


if __name__ == "__main__":
    unittest.main()
