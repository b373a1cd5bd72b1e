"""Point 14, as far as it speaks of texts of programs."""

import unittest

from chipstack.errors import CodeError
from chipstack.programs import LineReader, Program, parse_program, program_text, tree_text, words_of
from tests.machine import ProgramDrawing

SIGNS = ("+", "-", "&", "^", "==", "!=", "<")
HEAD = "var a = 1\nvar b = 2\nrows r 4\nrows s 2\n"


def tree_of(text):
    """Return the expression of a text."""
    reader = LineReader(words_of(text))
    tree = reader.expression()
    assert reader.here() == "", text
    return tree


def name(one):
    """Return the expression of a name."""
    return ("name", one)


def op(sign, one, other):
    """Return an operation."""
    return ("op", sign, one, other)


A, B, C = name("a"), name("b"), name("c")


class WordsTest(unittest.TestCase):
    def test_marks(self):
        for line, told in (("", []), ("   ", []), ("// a", []), ("a=b", ["a", "=", "b"]), ("a // b", ["a"]),
                           ("a==b!=c<d", ["a", "==", "b", "!=", "c", "<", "d"]), ("a===b", ["a", "==", "=", "b"]),
                           ("half(a1)+12-x[3]&y^z", ["half", "(", "a1", ")", "+", "12", "-", "x", "[", "3", "]", "&", "y",
                                                     "^", "z"]),
                           ("  out   in  ", ["out", "in"]), ("12ab", ["12", "ab"])):
            self.assertEqual(words_of(line), told)
            self.assertIs(type(words_of(line)), list)

    def test_signs_that_are_none(self):
        for line in ("a * b", "a | b", "a > b", "a ! b", "A", "a_b", "a, b", "a.b", "{", "a\tb", "a / b", "~a", "a:", "#"):
            self.assertRaises(CodeError, words_of, line)

    def test_sixty_marks_and_61(self):
        line = "out a" + " + a" * 29
        self.assertEqual(len(words_of(line)), 60)
        self.assertEqual(len(words_of(line + " // + a")), 60)
        self.assertRaises(CodeError, words_of, line + " +")
        parse_program("var a = 0\n" + line)
        self.assertRaises(CodeError, parse_program, "var a = 0\n" + line + " + a")


class ReaderTest(unittest.TestCase):
    def test_operands(self):
        self.assertEqual(tree_of("a"), A)
        self.assertEqual(tree_of("007"), ("number", 7))
        self.assertEqual(tree_of("999"), ("number", 999))
        self.assertEqual(tree_of("in"), ("in",))
        self.assertEqual(tree_of("half(a)"), ("half", A))
        self.assertEqual(tree_of("a[b]"), ("at", "a", B))
        self.assertEqual(tree_of("((a))"), A)
        self.assertEqual(tree_of("a[b[in]+1]"), ("at", "a", op("+", ("at", "b", ("in",)), ("number", 1))))

    def test_operations_go_from_the_left(self):
        for sign in "+-&^":
            for other in "+-&^":
                self.assertEqual(tree_of(f"a {sign} b {other} c"), op(other, op(sign, A, B), C))
                self.assertEqual(tree_of(f"a {sign} (b {other} c)"), op(sign, A, op(other, B, C)))

    def test_comparisons_bind_least(self):
        for sign in ("==", "!=", "<"):
            for other in "+-&^":
                self.assertEqual(tree_of(f"a {other} b {sign} c"), op(sign, op(other, A, B), C))
                self.assertEqual(tree_of(f"a {sign} b {other} c"), op(sign, A, op(other, B, C)))
                self.assertEqual(tree_of(f"(a {sign} b) {other} c"), op(other, op(sign, A, B), C))

    def test_comparisons_do_not_follow_each_other(self):
        for text in ("a == b == c", "a < b != c", "a < b < c"):
            reader = LineReader(words_of(text))
            reader.expression()
            self.assertNotEqual(reader.here(), "")
            self.assertRaises(CodeError, parse_program, "var a = 0\nvar b = 0\nvar c = 0\nout " + text)
        self.assertEqual(tree_of("(a < b) < c"), op("<", op("<", A, B), C))

    def test_the_reader_goes_on_behind(self):
        reader = LineReader(["a", "+", "b", "]", "c"])
        self.assertEqual(reader.here(), "a")
        self.assertEqual(reader.expression(), op("+", A, B))
        self.assertEqual(reader.here(), "]")
        reader = LineReader(("[", "a", "]", "=", "5"))
        self.assertEqual((reader.index(), reader.here()), (A, "="))
        self.assertEqual(LineReader([]).here(), "")

    def test_wrong_ones_leave_the_reader_where_it_was(self):
        for text in ("", "+ a", "a +", "(a", "half a", "half(a", "a[b", "a[]", "()", "1000", "0001", "if", "a + )", "end",
                     "a" * 21, "half", "var", "== a", "a + out", "a[1000]"):
            reader = LineReader(words_of(text))
            for _ in range(20):
                self.assertRaises(CodeError, reader.expression)
            self.assertEqual(reader.here(), "".join(words_of(text)[:1]))
        for text in ("", "a", "[", "[a", "[]", "[a b]", "[a)"):
            reader = LineReader(words_of(text))
            for _ in range(20):
                self.assertRaises(CodeError, reader.index)
            self.assertEqual(reader.here(), "".join(words_of(text)[:1]))

    def test_twelve_expressions_within_each_other(self):
        for opened, closed in (("(", ")"), ("half(", ")"), ("r[", "]")):
            self.assertIsNotNone(tree_of(opened * 11 + "a" + closed * 11))
            self.assertRaises(CodeError, tree_of, opened * 12 + "a" + closed * 12)
            parse_program(HEAD + "out " + opened * 11 + "a" + closed * 11)
            self.assertRaises(CodeError, parse_program, HEAD + "out " + opened * 12 + "a" + closed * 12)
            parse_program(HEAD + "r[" + opened * 11 + "a" + closed * 11 + "] = half(1)")
            self.assertRaises(CodeError, parse_program, HEAD + "r[" + opened * 12 + "a" + closed * 12 + "] = 1")
        # Beside each other, and in a row, there may be more.
        self.assertIsNotNone(tree_of(" + ".join(["(" * 6 + "a" + ")" * 6] * 4)))
        self.assertIsNotNone(tree_of("a" + " - a" * 28))
        self.assertRaises(CodeError, tree_of, "(a) + (b) + (c) + " + "(" * 12 + "a" + ")" * 12)
        reader = LineReader(words_of("[" + "a]"))
        for _ in range(20):
            self.assertRaises(CodeError, reader.expression)
        self.assertEqual(reader.index(), A)
        reader = LineReader(words_of("(" * 12 + "a" + ")" * 12))
        self.assertRaises(CodeError, reader.expression)
        self.assertEqual(reader.here(), "(")


class ParseTest(unittest.TestCase):
    def test_each_statement(self):
        program = parse_program(HEAD + "a = in\nr[a] = b\nout 3\nif a\nout 1\nelse\nout 2\nend\nwhile b\nb = b - 1\nend\n"
                                "if b\nend\nif a\nelse\nend")
        self.assertEqual(program.body, (
            ("put", "a", ("in",)), ("put_at", "r", A, B), ("out", ("number", 3)),
            ("if", A, (("out", ("number", 1)),), (("out", ("number", 2)),)),
            ("while", B, (("put", "b", op("-", B, ("number", 1))),)), ("if", B, (), ()), ("if", A, (), ())))
        self.assertEqual((program.numbers, program.rows), ({"a": 1, "b": 2}, {"r": 4, "s": 2}))
        self.assertEqual(program.shown(), ((("a", 1), ("b", 2)), (("r", 4), ("s", 2)), program.body))

    def test_shown_is_ascending(self):
        program = parse_program("var z = 3\nrows y 1\nvar b = 0\nrows a 0")
        self.assertEqual(program.shown(), ((("b", 0), ("z", 3)), (("a", 0), ("y", 1)), ()))

    def test_the_empty_text(self):
        for text in ("", "\n\n", "// nothing", "   \n  // a\n"):
            self.assertEqual(parse_program(text).shown(), ((), (), ()))

    def test_blanks_and_remarks(self):
        program = parse_program("  var a=1 // one\n\n   if   a==1// two\n out a\n  end")
        self.assertEqual(program.body, (("if", op("==", A, ("number", 1)), (("out", A),), ()),))

    def test_names(self):
        for one in ("a", "z9", "a" * 20, "keep", "plan", "then"):
            self.assertEqual(parse_program(f"var {one} = 1\nout {one}").numbers, {one: 1})
        for one in ("9a", "A", "a" * 21, "", "var", "rows", "out", "if", "else", "while", "end", "in", "half", "a b", "a.b"):
            self.assertRaises(CodeError, parse_program, f"var {one} = 1")
            self.assertRaises(CodeError, parse_program, f"rows {one} 1")

    def test_numbers_of_three_digits_and_of_four(self):
        self.assertEqual(parse_program("var a = 999\nrows r 999\nout 999").shown()[:2], ((("a", 999),), (("r", 999),)))
        for text in ("var a = 1000", "rows r 1000", "out 1000", "var a = 0001", "var a = 1\na = 1000"):
            self.assertRaises(CodeError, parse_program, text)

    def test_twelve_blocks_within_each_other(self):
        for word in ("if", "while"):
            for many in (1, 11, 12):
                text = f"{word} 1\n" * many + "out 1\n" + "end\n" * many
                self.assertEqual(len(parse_program(text).body), 1)
                self.assertEqual(len(parse_program(text * 2).body), 2)
            self.assertRaises(CodeError, parse_program, f"{word} 1\n" * 13 + "out 1\n" + "end\n" * 13)
            self.assertRaises(CodeError, parse_program, f"{word} 1\n" * 13 + "end\n" * 13)
        text = "if 1\nelse\n" * 12 + "out 1\n" + "end\n" * 12
        parse_program(text)
        self.assertRaises(CodeError, parse_program, "if 1\nelse\n" + text + "end\n")

    def test_lines_that_are_none(self):
        for line in ("a", "a b", "a = ", "a == 1", "= 1", "out", "out a b", "if", "while", "if a b\nend", "r[1]", "r[1] 2",
                     "r[] = 1", "a = 1 = 2", "5", "5 = a", "in = a", "else", "end", "a + b", "(a) = 1", "half(a) = 1",
                     "out = 1", "r[1]] = 1", "end end", "a[1 = 2", "out out", "if a then\nend", "in"):
            self.assertRaises(CodeError, parse_program, HEAD + line)
        for text in ("var", "var a", "var a 1", "var a =", "var a = b", "var a = 1 2", "var a = 1 + 1", "rows", "rows r",
                     "rows r = 1", "rows r a", "rows r 1 2", "var a == 1", "rows 1 r", "var a = -1"):
            self.assertRaises(CodeError, parse_program, text)

    def test_blocks_that_do_not_fit(self):
        for text in ("if a", "while a", "if a\nelse", "if a\nif b\nend", "while a\nelse\nend", "if a\nelse\nelse\nend",
                     "end", "if a\nend\nend", "else\nend", "while a\nend\nelse", "if a\nend a", "if a\nelse b\nend",
                     "while a\nout 1", "end end"):
            self.assertRaises(CodeError, parse_program, HEAD + text)

    def test_names_unknown_told_twice_or_of_the_other_class(self):
        for line in ("c = 1", "out c", "out a + c", "out half(c)", "out r[c]", "out c[1]", "c[1] = 1", "r[c] = 1", "r[1] = c",
                     "if c\nend", "while c\nend", "if a\nout c\nend", "if a\nelse\nout c\nend", "while a\nc = 1\nend",
                     "out r", "r = 1", "out a[1]", "a[1] = 1", "out r + 1", "out r[r]", "a = s", "r[s] = 1", "r[1] = s"):
            self.assertRaises(CodeError, parse_program, HEAD + line)
        for text in ("var a = 1\nvar a = 1", "rows a 1\nrows a 1", "var a = 1\nrows a 1", "rows a 1\nvar a = 1"):
            self.assertRaises(CodeError, parse_program, text)

    def test_var_and_rows_stand_first(self):
        for line in ("var c = 1", "rows t 1"):
            for text in ("out a\n", "a = 1\n", "if a\nend\n"):
                self.assertRaises(CodeError, parse_program, HEAD + text + line)
            self.assertRaises(CodeError, parse_program, HEAD + "if a\n" + line + "\nend")


class TextTest(unittest.TestCase):
    def test_a_text(self):
        text = ("var b = 2\nvar a = 1\nrows r 4\na = in + 1\nif a == b\n  while r[a] < 3\n    r[a + 1] = half(b)\n  end\n"
                "else\n  out a - (b - 1)\nend\nif a\n  out 1\nend\n")
        self.assertEqual(program_text(parse_program(text)), text)
        self.assertEqual(program_text(Program({}, {}, [])), "")

    def test_no_else_without_statements(self):
        self.assertEqual(program_text(Program({"a": 0}, {}, [("if", A, (), ())])), "var a = 0\nif a\nend\n")

    def test_brackets_only_where_they_are_needed(self):
        for text in ("a + b - c", "a - (b + c)", "a & b == c ^ a", "(a == b) + c", "a + (b < c)", "(a < b) != (b < c)",
                     "half(a + b)", "half(a == b)", "r[a < b]", "r[r[a] - 1] + in", "a - (b & (c ^ a))", "in", "12",
                     "(a == b) == c", "a == (b == c)", "a < b + c"):
            self.assertEqual(tree_text(tree_of(text)), text)
        for text, least in (("((a))", "a"), ("(a + b) + c", "a + b + c"), ("(a + b) == (c)", "a + b == c"),
                            ("half((a))", "half(a)"), ("r[(a - b)]", "r[a - b]"), ("((a < b))", "a < b")):
            self.assertEqual(tree_text(tree_of(text)), least)

    def test_levels(self):
        plain, compared = op("+", A, B), op("<", A, B)
        self.assertEqual([tree_text(plain, level) for level in (0, 1, 2)], ["a + b", "a + b", "(a + b)"])
        self.assertEqual([tree_text(compared, level) for level in (0, 1, 2)], ["a < b", "(a < b)", "(a < b)"])
        for tree in (A, ("number", 5), ("in",), ("half", compared), ("at", "r", compared)):
            self.assertEqual(tree_text(tree, 2), tree_text(tree))

    def test_every_two_operations(self):
        for sign in SIGNS:
            for other in SIGNS:
                for tree in (op(sign, op(other, A, B), C), op(sign, A, op(other, B, C))):
                    self.assertEqual(tree_of(tree_text(tree)), tree)

    def test_drawn_programs(self):
        for seed in range(150):
            program = ProgramDrawing(seed, 2 + seed % 7).program()
            text = program_text(program)
            again = parse_program(text)
            self.assertEqual(again.shown(), program.shown())
            self.assertEqual(program_text(again), text)
            for line in text.splitlines():
                self.assertEqual(words_of(line), words_of(line.replace(" ", "  ") + " // x"))

    def test_what_is_given_stays(self):
        numbers, rows, body = {"a": 1}, {"r": 2}, [("out", A)]
        program = Program(numbers, rows, body)
        self.assertEqual((program.rows, program.body), ({"r": 2}, (("out", A),)))
        program.rows["t"] = 1
        self.assertEqual((numbers, rows, body), ({"a": 1}, {"r": 2}, [("out", A)]))


if __name__ == "__main__":
    unittest.main()
