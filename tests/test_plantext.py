"""Point 2: texts of plans, their marks and their expressions."""

import random
import unittest

from chipstack.errors import PlanError
from chipstack.plantext import Mark, PlanReader, expression_text, mark_at, marks_of, strength
from tests.reckon import Drawing

A, B, C, D = ("name", "a"), ("name", "b"), ("name", "c"), ("name", "d")
WORDS = ("plan", "in", "out", "keep", "let", "use", "of", "end", "if", "then", "else", "wide", "all", "any")
SIGNS = ("(", ")", "{", "}", "[", "]", ",", ":", ".", "=", "|", "^", "&", "==", "!=", "<", "+", "-", "<<", ">>", "~",
         "<-")


def rows_of(text):
    """Return (class, text, line) of the marks of a text."""
    return [(mark.kind, mark.text, mark.line) for mark in marks_of(text)]


def read(text):
    """Return the expression of a text, all of whose marks but the last one are read."""
    reader = PlanReader(marks_of(text))
    tree = reader.expression()
    assert reader.here() == "", text
    return tree


class MarksTest(unittest.TestCase):
    def test_a_mark_has_its_fields(self):
        mark = Mark("name", "a", 7)
        self.assertEqual((mark.kind, mark.text, mark.line), ("name", "a", 7))

    def test_classes(self):
        self.assertEqual(rows_of("let a1 = 20:8"), [
            ("word", "let", 1), ("name", "a1", 1), ("sign", "=", 1), ("number", "20", 1), ("sign", ":", 1),
            ("number", "8", 1), ("end", "", 1)])

    def test_all_words_are_words(self):
        for word in WORDS:
            self.assertEqual(rows_of(word)[0], ("word", word, 1))
            self.assertEqual(rows_of(word + "x")[0], ("name", word + "x", 1))

    def test_all_signs(self):
        for sign in SIGNS:
            self.assertEqual(rows_of(sign)[0], ("sign", sign, 1))

    def test_signs_side_by_side(self):
        self.assertEqual([row[1] for row in rows_of("a<<2<b<-c==d")],
                         ["a", "<<", "2", "<", "b", "<-", "c", "==", "d", ""])

    def test_blanks_part_marks(self):
        self.assertEqual([row[1] for row in rows_of("  a  bc  = =")], ["a", "bc", "=", "=", ""])

    def test_remarks(self):
        self.assertEqual(rows_of("a // let % A_ ! b\nb//c"),
                         [("name", "a", 1), ("end", "", 1), ("name", "b", 2), ("end", "", 2)])

    def test_empty_lines_do_not_count(self):
        self.assertEqual(rows_of("\n\na\n   \n// only a remark\nb\n"),
                         [("name", "a", 3), ("end", "", 3), ("name", "b", 6), ("end", "", 6)])
        self.assertEqual(marks_of(""), [])

    def test_names_of_twenty_letters(self):
        self.assertEqual(rows_of("a" * 20)[0][1], "a" * 20)
        self.assertEqual(rows_of("a" + "9" * 19)[0][1], "a" + "9" * 19)
        with self.assertRaises(PlanError):
            marks_of("a" * 21)

    def test_numbers_of_ten_digits(self):
        self.assertEqual(rows_of("9876543210")[0], ("number", "9876543210", 1))
        self.assertEqual(rows_of("0")[0], ("number", "0", 1))
        for text in ("10000000000", "00", "01", "007"):
            with self.assertRaises(PlanError):
                marks_of(text)

    def test_lines_of_120_marks(self):
        self.assertEqual(len(marks_of("a " * 120)), 121)
        self.assertEqual(len(marks_of("a " * 120 + "// b c\n" + "b " * 120)), 242)
        with self.assertRaises(PlanError):
            marks_of("a " * 121)

    def test_signs_that_are_none(self):
        for text in ("A", "a_b", "a > b", "a / b", "!", "a # b", "\t", "a * b", '"', "\u00e9"):
            with self.assertRaises(PlanError):
                marks_of(text)

    def test_mark_at(self):
        mark = mark_at("let ab = 12", 4, 9)
        self.assertEqual((mark.kind, mark.text, mark.line), ("name", "ab", 9))
        self.assertEqual(mark_at("let ab = 12", 9, 1).text, "12")
        self.assertEqual(mark_at("a<<b", 1, 1).text, "<<")
        for line, place in (("a b", 1), ("a", 1), ("a?", 1), ("// a", 0), ("", 0)):
            with self.assertRaises(PlanError):
                mark_at(line, place, 1)


class ReaderTest(unittest.TestCase):
    def test_here(self):
        self.assertEqual(PlanReader(marks_of("a b")).here(), "a")
        self.assertEqual(PlanReader([]).here(), "")

    def test_fail(self):
        for text in ("", "a"):
            with self.assertRaises(PlanError):
                PlanReader(marks_of(text)).fail()

    def test_operands(self):
        told = {"5:8": ("number", 5, 8), "a": A, "part.port": ("name", "part.port"), "(a)": A, "((a))": A,
                "{a, b, c}": ("join", (A, B, C)), "{a}": ("join", (A,)), "all(a)": ("all", A), "any(a)": ("any", A),
                "wide(a, 9)": ("wide", A, 9), "~a": ("not", A), "~~a": ("not", ("not", A))}
        for text, tree in told.items():
            self.assertEqual(read(text), tree, text)

    def test_slices(self):
        self.assertEqual(read("a[3]"), ("slice", A, 3, 3))
        self.assertEqual(read("a[7:4]"), ("slice", A, 7, 4))
        self.assertEqual(read("a[7:4][2:1][0]"), ("slice", ("slice", ("slice", A, 7, 4), 2, 1), 0, 0))
        self.assertEqual(read("~a[1]"), ("not", ("slice", A, 1, 1)))
        self.assertEqual(read("(~a)[1]"), ("slice", ("not", A), 1, 1))
        for text in ("5:8", "p.q", "(a)", "{a, b}", "all(a)", "any(a)", "wide(a, 4)"):
            self.assertEqual(read(text + "[0]"), ("slice", read(text), 0, 0))

    def test_shifts(self):
        self.assertEqual(read("a << 0 >> 32"), ("shift", ">>", ("shift", "<<", A, 0), 32))
        self.assertEqual(read("a + b << 2"), ("op", "+", A, ("shift", "<<", B, 2)))
        self.assertEqual(read("~a << 1"), ("shift", "<<", ("not", A), 1))
        reader = PlanReader(marks_of("a << 2 + b"))
        self.assertEqual(reader.shifted(), ("shift", "<<", A, 2))
        self.assertEqual(reader.here(), "+")

    def test_how_strongly_operations_bind(self):
        rows = (("|",), ("^",), ("&",), ("==", "!=", "<"), ("+", "-"))
        for low in range(len(rows)):
            for high in range(low + 1, len(rows)):
                for one in rows[low]:
                    for other in rows[high]:
                        self.assertEqual(read(f"a {one} b {other} c"), ("op", one, A, ("op", other, B, C)))
                        self.assertEqual(read(f"a {other} b {one} c"), ("op", one, ("op", other, A, B), C))

    def test_operations_of_one_level_go_from_the_left(self):
        for one, other in (("|", "|"), ("^", "^"), ("&", "&"), ("+", "-"), ("-", "+"), ("-", "-")):
            self.assertEqual(read(f"a {one} b {other} c"), ("op", other, ("op", one, A, B), C))

    def test_comparisons_do_not_follow_each_other(self):
        for one in ("==", "!=", "<"):
            for other in ("==", "!=", "<"):
                with self.assertRaises(PlanError):
                    read(f"a {one} b {other} c")
                self.assertEqual(read(f"a {one} b & c {other} d"), ("op", "&", ("op", one, A, B), ("op", other, C, D)))
                self.assertEqual(read(f"(a {one} b) {other} c"), ("op", other, ("op", one, A, B), C))

    def test_ifs(self):
        self.assertEqual(read("if a then b else c | d"), ("if", A, B, ("op", "|", C, D)))
        self.assertEqual(read("if a then b else if b then c else d"), ("if", A, B, ("if", B, C, D)))
        self.assertEqual(read("if if a then b else c then if b then c else d else a"),
                         ("if", ("if", A, B, C), ("if", B, C, D), A))
        self.assertEqual(read("(if a then b else c) + d"), ("op", "+", ("if", A, B, C), D))

    def test_wrong_expressions(self):
        for text in ("", "a +", "+ a", "a b", "(a", "a)", "()", "{}", "{a,}", "{a", "a[", "a[]", "a[b]", "a[1:]", "a[1",
                     "5", "5:", "5:a", "a.", "a.5", ".a", "a.b.c", "a <<", "a << b", "a << (1)", "a + if b then c else d",
                     "if a then b", "if a else b", "if a b else c", "all a", "all()", "all(a, b)", "any(", "wide(a)",
                     "wide(a, b)", "wide(a 3)", "then", "plan", "~", "~if a then b else c", "a = b", "a <- b",
                     "a << ~2", "a.in", "then(a)", "plan(a)", "in(a)", "end", "+(a)", "~(", ",(a)"):
            with self.assertRaises(PlanError):
                reader = PlanReader(marks_of(text))
                reader.expression()
                # What stands behind an expression is no part of it.
                if reader.here() != "":
                    reader.fail()

    def test_as_deep_as_may_be(self):
        for text in ("(" * 29 + "a" + ")" * 29, "~" * 29 + "a", "{" * 29 + "a" + "}" * 29,
                     "all(" * 29 + "a" + ")" * 29, "a + " + "(" * 29 + "a" + ")" * 29 + " + b",
                     "if a then b else " * 15 + "(" * 14 + "a" + ")" * 14, "(~" * 14 + "(a[1])[2]" + ")" * 14):
            read(text)

    def test_one_deeper(self):
        for text in ("(" * 30 + "a" + ")" * 30, "~" * 30 + "a", "{" * 30 + "a" + "}" * 30,
                     "if a then b else " * 15 + "(" * 15 + "a" + ")" * 15, "~" * 28 + "(~a)",
                     "a + b + c + ~d + " + "(" * 30 + "a" + ")" * 30, "(if a then b else c) + " + "~" * 30 + "d"):
            with self.assertRaises(PlanError):
                read(text)
        self.assertEqual(read("~" * 28 + "(a)"), read("~" * 28 + "a"))

    def test_what_was_deep_ahead_does_not_count(self):
        for text in ("(if a then b else c) + " + "~" * 29 + "d", "~" * 29 + "a + " + "(" * 29 + "b" + ")" * 29):
            read(text)

    def test_operations_and_slices_are_not_deeper(self):
        self.assertEqual(read("a" + " + a" * 58)[0], "op")
        self.assertEqual(read("a" + "[0]" * 39)[0], "slice")
        self.assertEqual(read("a" + " << 1" * 59)[0], "shift")

    def test_enter(self):
        reader = PlanReader([])
        for _ in range(30):
            reader.enter()
        for _ in range(2):
            with self.assertRaises(PlanError):
                reader.enter()

    def test_what_raises_changes_nothing(self):
        for text in ("a + (b + )", "if a then (b", "~~", "a == b == c", "(" * 31 + "a", "{a, b"):
            reader = PlanReader(marks_of(text))
            for _ in range(40):
                with self.assertRaises(PlanError):
                    reader.expression()
                self.assertEqual(reader.here(), text[0] if text[0] != "i" else "if")
        reader = PlanReader(marks_of("(a + ~) << 1"))
        for _ in range(40):
            with self.assertRaises(PlanError):
                reader.shifted()
            self.assertEqual(reader.here(), "(")
        # Nothing is left of how deep it was.
        reader = PlanReader(marks_of("(" * 29 + "a" + ")" * 29 + "\n" + "(" * 29 + "a" + ")" * 29))
        self.assertEqual(reader.expression(), A)

    def test_the_marks_given_stay(self):
        marks = marks_of("a + b")
        PlanReader(marks).expression()
        self.assertEqual([mark.text for mark in marks], ["a", "+", "b", ""])


class TextTest(unittest.TestCase):
    def test_strength(self):
        told = {"if a then b else c": 0, "a | b": 1, "a ^ b": 2, "a & b": 3, "a == b": 4, "a != b": 4, "a < b": 4,
                "a + b": 5, "a - b": 5, "a << 1": 6, "a >> 1": 6, "~a": 7, "a": 7, "5:8": 7, "a[1]": 7, "{a, b}": 7,
                "all(a)": 7, "any(a)": 7, "wide(a, 8)": 7, "p.q": 7}
        for text, level in told.items():
            self.assertEqual(strength(read(text)), level, text)

    def test_texts_with_no_more_brackets_than_needed(self):
        for text in ("a", "p.q", "5:8", "~a", "~~a", "a[3]", "a[7:4][1]", "(~a)[1]", "~a[1]", "a + b - c", "a - (b + c)",
                     "a & b | c & d", "(a | b) & c", "a | (b | c)", "a == b & c < d", "(a == b) == c", "a == (b == c)",
                     "a << 1 >> 2", "(a + b) << 1", "a + b << 1", "(a << 1)[2]", "(a + b)[2]", "~(a + b)", "~(a << 1)",
                     "if a then b else c", "if if a then b else c then if a then b else c else if a then b else c",
                     "(if a then b else c) + d", "a + (if a then b else c)", "~(if a then b else c)",
                     "(if a then b else c) << 1", "(if a then b else c)[0]", "{a, b + c, if a then b else c}",
                     "all(a + b)", "any(if a then b else c)", "wide(a | b, 9)", "all(a)[0]", "wide(a, 9)[3:2]",
                     "{a, b}[2]", "5:8[1]", "a ^ b & c", "(a ^ b) & c", "a + b == c - d", "a == (b & c)"):
            self.assertEqual(expression_text(read(text)), text)

    def test_brackets_that_are_not_needed_go(self):
        told = {"((a))": "a", "(a + b) + c": "a + b + c", "(a & b) | (c)": "a & b | c", "(a)[1]": "a[1]",
                "a[2:2]": "a[2]", "(a << 1) + b": "a << 1 + b", "((a == b)) & c": "a == b & c", "~(a)": "~a",
                "if (a) then (b) else (if a then b else c)": "if a then b else if a then b else c",
                "(a << 1) >> 1": "a << 1 >> 1", "~(a[1])": "~a[1]"}
        for text, shorter in told.items():
            self.assertEqual(expression_text(read(text)), shorter)

    def test_texts_read_again_are_the_same(self):
        drawing = Drawing(5)
        drawing.known = {f"{letter}{width}": width for letter in "ab" for width in range(1, 10)}
        chooser = random.Random(6)
        for _ in range(400):
            tree = drawing.tree(chooser.randint(1, 9), 3)
            text = expression_text(tree)
            self.assertEqual(read(text), tree, text)
            self.assertEqual(expression_text(read(text)), text)


if __name__ == "__main__":
    unittest.main()
