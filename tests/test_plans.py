"""Points 3 and 4: plans, their lines, and the widths of expressions."""

import unittest

from chipstack.errors import PlanError
from chipstack.plans import Plan, line_text, parse_plans, two_to, width_of
from tests.reckon import drawn_plans

COUNTER = """
plan counter
  in go 1
  out count 4
  keep now 4 = 9
  let more = now + 1:4
  now <- if go then more else now
  count = now
end
"""
PAIR = COUNTER + """
plan pair   // two of them
  in go 1

  in stop 1
  out both 8
  out odd 1
  use one of counter (go = go & ~stop)
  use two of counter (go = one.count[0])
  both = {one.count, two.count}
  odd = one.count[0] ^ two.count[0]
end
"""
WIDTHS = {"a": 8, "b": 8, "c": 4, "t": 1, "p.q": 3, "w": 32}
A, B, C, T, W = ("name", "a"), ("name", "b"), ("name", "c"), ("name", "t"), ("name", "w")


def plan_with(*lines):
    """Return the text of a plan that has some lines of its own behind usual ones."""
    head = ["plan top", "in a 8", "in b 8", "in c 4", "in t 1"]
    return COUNTER + "\n".join([*head, *lines, "end"]) + "\n"


class PlansTest(unittest.TestCase):
    def fails(self, *lines):
        """Test that a plan with some lines is none."""
        with self.assertRaises(PlanError, msg=lines):
            parse_plans(plan_with(*lines))

    def holds(self, *lines):
        """Test that a plan with some lines is one, and return it."""
        plans = parse_plans(plan_with(*lines))
        text = plans["top"].plan_text()
        again = parse_plans(COUNTER + text)["top"]
        self.assertEqual(again.lines, plans["top"].lines)
        self.assertEqual(again.plan_text(), text)
        return plans["top"]

    def test_lines(self):
        plan = parse_plans(PAIR)["counter"]
        self.assertEqual(plan.name, "counter")
        self.assertEqual(plan.lines, (
            ("in", "go", 1), ("out", "count", 4), ("keep", "now", 4, 9),
            ("let", "more", ("op", "+", ("name", "now"), ("number", 1, 4))),
            ("next", "now", ("if", ("name", "go"), ("name", "more"), ("name", "now"))),
            ("give", "count", ("name", "now"))))

    def test_parts(self):
        plans = parse_plans(PAIR)
        self.assertEqual(list(plans), ["counter", "pair"])
        self.assertEqual(plans["pair"].of("use"), [
            ("use", "one", "counter", (("go", ("op", "&", ("name", "go"), ("not", ("name", "stop")))),)),
            ("use", "two", "counter", (("go", ("slice", ("name", "one.count"), 0, 0)),))])
        self.assertEqual(plans["pair"].ins(), (("go", 1), ("stop", 1)))
        self.assertEqual(plans["pair"].gives(), (("both", 8), ("odd", 1)))

    def test_of(self):
        plan = parse_plans(PAIR)["pair"]
        self.assertEqual(plan.of("in"), [("in", "go", 1), ("in", "stop", 1)])
        self.assertEqual(plan.of("keep"), [])

    def test_a_plan_of_its_own(self):
        plan = Plan("a", [("out", "b", 1), ("give", "b", ("number", 1, 1))])
        self.assertEqual(plan.lines, (("out", "b", 1), ("give", "b", ("number", 1, 1))))
        self.assertEqual((plan.ins(), plan.gives()), ((), (("b", 1),)))

    def test_texts(self):
        plans = parse_plans(PAIR)
        text = plans["counter"].plan_text()
        self.assertEqual(text.split("\n"), [
            "plan counter", "  in go 1", "  out count 4", "  keep now 4 = 9", "  let more = now + 1:4",
            "  now <- if go then more else now", "  count = now", "end", ""])
        both = text + plans["pair"].plan_text()
        again = parse_plans(both)
        self.assertEqual([again[name].lines for name in again], [plans[name].lines for name in plans])
        self.assertEqual("".join(plan.plan_text() for plan in again.values()), both)

    def test_line_text(self):
        rows = {"in a 8": ("in", "a", 8), "out a 32": ("out", "a", 32), "keep a 4 = 15": ("keep", "a", 4, 15),
                "let a = b + c": ("let", "a", ("op", "+", B, C)), "a <- b": ("next", "a", B), "a = b": ("give", "a", B),
                "use p of q (a = b, c = t)": ("use", "p", "q", (("a", B), ("c", T))), "use p of q ()": ("use", "p", "q", ())}
        for text, line in rows.items():
            self.assertEqual(line_text(line), text)

    def test_drawn_plans(self):
        for seed in range(60):
            plans = drawn_plans(seed)[1]
            text = "".join(plan.plan_text() for plan in plans.values())
            again = parse_plans(text)
            self.assertEqual([again[name].lines for name in again], [plans[name].lines for name in plans])
            self.assertEqual("".join(plan.plan_text() for plan in again.values()), text)

    def test_no_plans_and_empty_ones(self):
        self.assertEqual(parse_plans(""), {})
        self.assertEqual(parse_plans("\n // none\n"), {})
        self.assertEqual(parse_plans("plan a\nend")["a"].lines, ())

    def test_names_told_twice(self):
        told = ("in x 4", "out x 4", "keep x 4 = 0", "let x = c", "use x of counter (go = t)")
        ends = {"out x 4": "x = c", "keep x 4 = 0": "x <- c"}
        for one in told:
            self.holds(one, *[ends[line] for line in (one,) if line in ends])
            for other in told:
                behind = [ends[line] for line in sorted({one, other}) if line in ends]
                self.fails(one, other, *behind)

    def test_names_of_other_kinds_may_be_the_same(self):
        self.holds("let counter = a", "let top = a", "use go of counter (go = t)")

    def test_unknown_names(self):
        self.fails("let x = y")
        self.fails("let x = p.count")
        self.fails("use p of counter (go = t)", "let x = p.now")
        self.fails("use p of counter (go = t)", "let x = p.go")
        self.fails("use p of counter (go = t)", "let x = wide(p, 4)")
        self.fails("out x 8", "x = a", "let y = x")
        self.fails("x <- a")
        self.fails("x = a")
        self.fails("a = b")
        self.fails("a <- b")

    def test_names_ahead_of_their_lines(self):
        self.fails("let x = y", "let y = a")
        self.fails("let x = x")
        self.fails("let x = p.count", "use p of counter (go = t)")
        self.fails("use p of counter (go = p.count[0])")
        self.fails("let x = k", "keep k 8 = 0", "k <- a")
        self.fails("k <- a", "keep k 8 = 0")
        self.fails("let x = i", "in i 8")
        self.holds("let y = a", "let x = y", "in i 8", "let z = i", "keep k 8 = 0", "k <- k")
        self.holds("use p of counter (go = t)", "let x = p.count")

    def test_words_are_no_names(self):
        for word in ("plan", "in", "out", "keep", "let", "use", "of", "end", "if", "then", "else", "wide", "all", "any"):
            self.fails(f"in {word} 4")
            self.fails(f"let {word} = a")
            with self.assertRaises(PlanError):
                parse_plans(f"plan {word}\nend\n")

    def test_widths_of_lines(self):
        for word in ("in x {}", "keep x {} = 0"):
            for width in (0, 33, 4294967296):
                self.fails(word.format(width))
        self.fails("out x 0", "x = a")
        self.fails("out x 33", "x = a")
        for width in (1, 32):
            self.holds(f"in x {width}", f"keep k {width} = 0", "k <- x", f"out y {width}", "y = k")

    def test_first_numbers(self):
        for width, most in ((1, 1), (8, 255), (32, 4294967295)):
            self.assertEqual(self.holds(f"keep x {width} = {most}", "x <- x").of("keep"), [("keep", "x", width, most)])
            self.fails(f"keep x {width} = {most + 1}", "x <- x")

    def test_each_out_is_given_once(self):
        self.holds("out x 8", "out y 8", "y = a", "x = b")
        self.fails("out x 8")
        self.fails("out x 8", "x = a", "x = a")
        self.fails("out x 8", "x <- a")
        self.fails("out x 8", "x = c")

    def test_each_keep_has_one_line(self):
        self.holds("keep x 8 = 0", "x <- x + a")
        self.fails("keep x 8 = 0")
        self.fails("keep x 8 = 0", "x <- a", "x <- b")
        self.fails("keep x 8 = 0", "x = a")
        self.fails("keep x 8 = 0", "x <- c")

    def test_ports(self):
        add = "plan add\nin one 8\nin other 8\nout total 8\ntotal = one + other\nend\n"
        ends = "\nout x 8\nx = p.total\nend\n"
        head = add + "plan top\nin a 8\nin c 4\n"
        for ports in ("one = a, other = a + 1:8", "other = a, one = a"):
            self.assertEqual(len(parse_plans(head + f"use p of add ({ports})" + ends)), 2)
        for ports in ("", "one = a", "one = a, one = a", "one = a, other = a, one = a", "one = a, other = a, more = a",
                      "one = a, more = a", "one = a, other = c", "one = a other = a", "one = a, other = a,",
                      "one = a, total = a", ", one = a, other = a", "one, other"):
            with self.assertRaises(PlanError, msg=ports):
                parse_plans(head + f"use p of add ({ports})" + ends)

    def test_a_part_without_ports(self):
        five = "plan five\nout x 4\nx = 5:4\nend\n"
        plan = parse_plans(five + "plan top\nuse p of five ()\nout y 4\ny = p.x\nend")["top"]
        self.assertEqual(plan.of("use"), [("use", "p", "five", ())])
        self.assertIn("use p of five ()", plan.plan_text())

    def test_parts_are_of_plans_told_before(self):
        self.fails("use p of nothing ()")
        self.fails("use p of top (a = a, b = b, c = c, t = t)")
        top = "plan top\nin t 1\nuse p of counter (go = t)\nend\n"
        parse_plans(COUNTER + top)
        with self.assertRaises(PlanError):
            parse_plans(top + COUNTER)

    def test_plans_told_twice(self):
        with self.assertRaises(PlanError):
            parse_plans(COUNTER + COUNTER)

    def test_how_many_plans(self):
        texts = [f"plan p{at}\nend\n" for at in range(21)]
        self.assertEqual(len(parse_plans("".join(texts[:20]))), 20)
        with self.assertRaises(PlanError):
            parse_plans("".join(texts))

    def test_how_many_lines(self):
        lines = ["in a 1"] + [f"\nlet x{at} = a // remark\n\n" for at in range(400)]
        plan = parse_plans("\n".join(["plan p", *lines[:400], "end"]))["p"]
        self.assertEqual(len(plan.lines), 400)
        with self.assertRaises(PlanError):
            parse_plans("\n".join(["plan p", *lines, "end"]))

    def test_plans_without_an_end_or_a_beginning(self):
        for text in ("plan a", "plan a\nin b 1", "plan a\nplan b\nend\nend", "in b 1", "end", "plan a\nend\nend",
                     "plan\nend", "plan a b\nend", "plan a\nend b", "plan a end", "plan 5\nend"):
            with self.assertRaises(PlanError, msg=text):
                parse_plans(text)

    def test_text_behind_a_line(self):
        for line in ("in x 4 4", "out x 4 = a", "keep x 4 = 0 0", "let x = a b", "let x = a)",
                     "use p of counter (go = t) t", "let x = a == b == a", "let x = a end", "in x 4 end"):
            self.fails(line)

    def test_lines_that_are_none(self):
        for line in ("in", "in x", "in x y", "out 4 x", "keep x 4", "keep x 4 0", "keep x 4 = a", "keep x 4 = 3:4",
                     "keep x = 4", "let x", "let x a", "let = a", "let p.x = a", "use p", "use p of", "use of counter",
                     "use p counter (go = t)", "use p of counter", "use p of counter (go)", "use p of counter go = t",
                     "x", "x a", "5 = a", "(a)", "if a then b else c", "in x 08", "= a", "a", "all x 4", "wide x 4", "of x 4", "( x 4", "5 x 4",
                     "then x = a", "plan x 4", "<- a"):
            self.fails(line)

    def test_lines_that_stand_in_any_order(self):
        self.holds("out x 8", "keep k 8 = 3", "x = k", "let y = k + a", "in z 8", "k <- y ^ z")


class WidthsTest(unittest.TestCase):
    def fails(self, tree):
        """Test that an expression has no width."""
        with self.assertRaises(PlanError, msg=tree):
            width_of(tree, WIDTHS)

    def test_two_to(self):
        self.assertEqual([two_to(many) for many in (0, 1, 8, 32)], [1, 2, 256, 4294967296])

    def test_numbers(self):
        for value, width in ((0, 1), (1, 1), (255, 8), (4294967295, 32)):
            self.assertEqual(width_of(("number", value, width), {}), width)
        for value, width in ((2, 1), (256, 8), (4294967296, 32), (0, 0), (0, 33), (1, 33)):
            self.fails(("number", value, width))

    def test_names(self):
        self.assertEqual(width_of(A, WIDTHS), 8)
        self.assertEqual(width_of(("name", "p.q"), WIDTHS), 3)
        self.fails(("name", "nothing"))

    def test_operations(self):
        for sign in ("|", "^", "&", "+", "-"):
            self.assertEqual(width_of(("op", sign, A, B), WIDTHS), 8)
            self.assertEqual(width_of(("op", sign, W, W), WIDTHS), 32)
            self.fails(("op", sign, A, C))
        for sign in ("==", "!=", "<"):
            self.assertEqual(width_of(("op", sign, A, B), WIDTHS), 1)
            self.fails(("op", sign, A, C))
            self.fails(("op", sign, A, ("name", "nothing")))

    def test_not_all_and_any(self):
        self.assertEqual(width_of(("not", C), WIDTHS), 4)
        for word in ("all", "any"):
            self.assertEqual(width_of((word, A), WIDTHS), 1)
            self.fails((word, ("name", "nothing")))

    def test_ifs(self):
        self.assertEqual(width_of(("if", T, A, B), WIDTHS), 8)
        self.fails(("if", T, A, C))
        self.fails(("if", A, A, B))
        self.fails(("if", C, A, A))

    def test_shifts(self):
        for many in (0, 8, 32):
            self.assertEqual(width_of(("shift", "<<", C, many), WIDTHS), 4)
        self.fails(("shift", ">>", C, 33))

    def test_slices(self):
        self.assertEqual(width_of(("slice", A, 7, 0), WIDTHS), 8)
        self.assertEqual(width_of(("slice", A, 7, 7), WIDTHS), 1)
        self.assertEqual(width_of(("slice", ("slice", A, 6, 3), 3, 1), WIDTHS), 3)
        for high, low in ((8, 0), (8, 8), (3, 4)):
            self.fails(("slice", A, high, low))
        self.fails(("slice", ("slice", A, 6, 3), 4, 0))

    def test_joins(self):
        self.assertEqual(width_of(("join", (A, C, T)), WIDTHS), 13)
        self.assertEqual(width_of(("join", (A, B, A, B)), WIDTHS), 32)
        self.assertEqual(width_of(("join", (W,)), WIDTHS), 32)
        self.fails(("join", (A, B, A, B, T)))
        self.fails(("join", (W, T)))

    def test_wide(self):
        for width in (8, 9, 32):
            self.assertEqual(width_of(("wide", A, width), WIDTHS), width)
        self.fails(("wide", A, 7))
        self.fails(("wide", A, 33))
        self.fails(("wide", T, 0))

    def test_the_table_given_stays(self):
        widths = {"a": 8}
        width_of(("op", "+", A, A), widths)
        with self.assertRaises(PlanError):
            width_of(("op", "+", A, B), widths)
        self.assertEqual(widths, {"a": 8})


if __name__ == "__main__":
    unittest.main()
