"""Points 4 and 5: what expressions mean, and plans as gates."""

import random
import unittest

from chipstack.building import Builder, build
from chipstack.errors import GateError, PlanError
from chipstack.gates import Run, check_netlist
from chipstack.plans import Plan, parse_plans
from tests.reckon import Reckoning, drawn_plans

SIGNS = ("|", "^", "&", "+", "-", "==", "!=", "<")
COUNTER = """
plan counter
  in go 1
  out count 4
  keep now 4 = 9
  now <- if go then now + 1:4 else now
  count = now
end
plan pair
  in go 1
  out both 8
  keep last 1 = 1
  use one of counter (go = go)
  use two of counter (go = one.count[0])
  last <- go
  both = {one.count, two.count}
end
plan four
  in go 1
  out all1 8
  use left of pair (go = go)
  use right of pair (go = ~go)
  all1 = left.both ^ right.both
end
"""


def run_of(text, name):
    """Return a run of a plan of a text."""
    netlist = build(parse_plans(text), name)
    check_netlist(netlist)
    return Run(netlist)


def circuit_of(width, outs):
    """Return a run of a plan over a and b of a width, and t; outs are (width, expression) by name."""
    lines = ["plan p", f"in a {width}", f"in b {width}", "in t 1"]
    for name, (many, tree) in outs.items():
        lines.extend([f"out {name} {many}", f"{name} = {tree}"])
    return run_of("\n".join([*lines, "end"]), "p")


def pairs(width, many=60):
    """Return pairs of numbers of a width: those at its ends, and some that are drawn."""
    draw = random.Random(width)
    ends = sorted({0, 1, 2 ** width - 1, 2 ** (width - 1)})
    found = [(one, other) for one in ends for other in ends]
    return found + [(draw.randrange(2 ** width), draw.randrange(2 ** width)) for _ in range(many)]


class MeaningTest(unittest.TestCase):
    def test_operations(self):
        for width in (1, 2, 5, 8, 32):
            top = 2 ** width
            outs = {f"x{at}": (1 if sign in ("==", "!=", "<") else width, f"a {sign} b") for at, sign in enumerate(SIGNS)}
            run = circuit_of(width, {**outs, "y": (width, "~a"), "all1": (1, "all(a)"), "any1": (1, "any(a)")})
            for a, b in pairs(width):
                found = run.step({"a": a, "b": b, "t": 0})
                want = [a | b, a ^ b, a & b, (a + b) % top, (a - b) % top, int(a == b), int(a != b), int(a < b)]
                self.assertEqual([found[f"x{at}"] for at in range(8)], want, (width, a, b))
                self.assertEqual((found["y"], found["all1"], found["any1"]), (top - 1 - a, int(a == top - 1), int(a > 0)))

    def test_ifs(self):
        for width in (1, 8, 32):
            run = circuit_of(width, {"x": (width, "if t then a else b")})
            for a, b in pairs(width, 5):
                for t in (0, 1):
                    self.assertEqual(run.step({"a": a, "b": b, "t": t}), {"x": a if t else b})

    def test_shifts(self):
        for width in (1, 5, 8, 32):
            for many in sorted({0, 1, width - 1, width, 32}):
                run = circuit_of(width, {"up": (width, f"a << {many}"), "down": (width, f"a >> {many}")})
                for a, _ in pairs(width, 5):
                    self.assertEqual(run.step({"a": a, "b": 0, "t": 0}),
                                     {"up": (a << many) % 2 ** width, "down": a >> many})

    def test_joins_slices_and_wide(self):
        run = circuit_of(8, {"x": (17, "{t, a, b}"), "y": (3, "a[6:2][3:1]"), "z": (1, "a[7]"), "w": (8, "wide(a, 8)"),
                             "v": (32, "wide(a, 32)"), "u": (1, "a[5:4][1]"), "one": (8, "{a}"), "s": (8, "a[7:0]")})
        for a, b in pairs(8):
            found = run.step({"a": a, "b": b, "t": 1})
            self.assertEqual(found, {"x": 2 ** 16 + a * 256 + b, "y": a >> 3 & 7, "z": a >> 7, "w": a, "v": a,
                                     "u": a >> 5 & 1, "one": a, "s": a})

    def test_numbers(self):
        run = circuit_of(4, {"x": (4, "10:4"), "y": (32, "4294967295:32"), "z": (1, "0:1")})
        self.assertEqual(run.step({"a": 0, "b": 0, "t": 0}), {"x": 10, "y": 4294967295, "z": 0})


class BuilderTest(unittest.TestCase):
    def test_constants(self):
        builder = Builder({})
        self.assertEqual((builder.zero, builder.one), (0, 1))
        self.assertEqual(builder.expression(("number", 6, 4), {}), [0, 1, 1, 0])

    def test_gates_and_expressions(self):
        builder = Builder({})
        a = builder.gate("not", builder.zero)
        b = builder.gate("and", a, builder.one)
        self.assertEqual((a, b), (2, 3))
        table = {"x": [a, b, 0], "p.q": [b]}
        self.assertEqual(builder.expression(("name", "x"), table), [a, b, 0])
        self.assertEqual(builder.expression(("name", "p.q"), table), [b])
        self.assertEqual(builder.expression(("slice", ("name", "x"), 2, 1), table), [b, 0])
        self.assertEqual(builder.expression(("join", (("name", "x"), ("name", "p.q"))), table), [b, a, b, 0])
        self.assertEqual(builder.expression(("wide", ("name", "p.q"), 3), table), [b, 0, 0])
        self.assertEqual(len(builder.expression(("op", "+", ("name", "x"), ("name", "x")), table)), 3)
        self.assertEqual(len(builder.expression(("op", "<", ("name", "x"), ("name", "x")), table)), 1)
        self.assertEqual(table, {"x": [a, b, 0], "p.q": [b]})

    def test_shifted(self):
        builder = Builder({})
        rows = [7, 8, 9]
        self.assertEqual(builder.shifted("<<", rows, 1), [0, 7, 8])
        self.assertEqual(builder.shifted(">>", rows, 1), [8, 9, 0])
        for sign in ("<<", ">>"):
            self.assertEqual(builder.shifted(sign, rows, 0), [7, 8, 9])
            self.assertEqual(builder.shifted(sign, rows, 3), [0, 0, 0])
            self.assertEqual(builder.shifted(sign, rows, 32), [0, 0, 0])
        self.assertEqual(rows, [7, 8, 9])

    def test_what_raises_changes_nothing(self):
        builder = Builder({})
        for _ in range(19997):
            builder.gate("not", 0)
        three = {"x": [0, 1, 0]}
        for _ in range(3):
            with self.assertRaises(GateError):
                builder.expression(("not", ("name", "x")), three)
        with self.assertRaises(PlanError):
            builder.expression(("op", "&", ("not", ("name", "y")), ("name", "z")), {"y": [0]})
        self.assertEqual(builder.gate("not", 0), 19999)
        with self.assertRaises(GateError):
            builder.gate("not", 0)


class BuildTest(unittest.TestCase):
    def test_the_first_gates(self):
        for name in ("counter", "pair", "four"):
            self.assertEqual(build(parse_plans(COUNTER), name).gates[:2], [("zero",), ("one",)])

    def test_what_comes_in_is_there_in_order(self):
        netlist = build(parse_plans("plan p\nin b 2\nin a 3\nend"), "p")
        self.assertEqual([netlist.gates[place] for place in netlist.ins()],
                         [("in", "b", 0), ("in", "b", 1), ("in", "a", 0), ("in", "a", 1), ("in", "a", 2)])
        self.assertEqual((netlist.outs, netlist.nexts, netlist.count()), ({}, {}, 0))

    def test_names_of_what_parts_keep(self):
        netlist = build(parse_plans(COUNTER), "four")
        self.assertEqual(sorted({netlist.gates[place][1] for place in netlist.keeps()}),
                         ["left.last", "left.one.now", "left.two.now", "right.last", "right.one.now", "right.two.now"])
        self.assertEqual(Run(netlist).kept(), {
            "left.last": 1, "left.one.now": 9, "left.two.now": 9, "right.last": 1, "right.one.now": 9,
            "right.two.now": 9})

    def test_parts_of_parts(self):
        plans = parse_plans(COUNTER)
        run, told = Run(build(plans, "four")), Reckoning(plans, "four")
        draw = random.Random(3)
        for _ in range(100):
            self.assertEqual(run.kept(), told.kept())
            ins = {"go": draw.randrange(2)}
            self.assertEqual(run.step(ins), told.step(ins))

    def test_drawn_plans(self):
        for seed in range(40):
            drawing, plans = drawn_plans(seed)
            for name in plans:
                netlist = build(plans, name)
                check_netlist(netlist)
                run, told = Run(netlist), Reckoning(plans, name)
                for _ in range(25):
                    ins = drawing.ins_for(plans[name])
                    self.assertEqual(run.given(ins), told.given(ins), (seed, name))
                    self.assertEqual(run.step(ins), told.step(ins), (seed, name))
                    self.assertEqual(run.kept(), told.kept(), (seed, name))

    def test_straight_through(self):
        run = run_of("plan p\nin a 4\nout b 4\nout c 4\nb = a\nc = 9:4\nend", "p")
        self.assertEqual(run.step({"a": 6}), {"b": 6, "c": 9})

    def test_an_unknown_plan(self):
        for plans in ({}, parse_plans(COUNTER)):
            with self.assertRaises(PlanError):
                build(plans, "nothing")

    def test_a_part_of_an_unknown_plan(self):
        with self.assertRaises(PlanError):
            build({"a": Plan("a", [("use", "p", "nothing", ())])}, "a")

    def test_how_many_parts(self):
        texts = ["plan leaf\nout x 1\nx = 1:1\nend"]
        # The whole, some, its 197 leaves, and one leaf more are 200.
        texts.append("\n".join(["plan some", *[f"use p{at} of leaf ()" for at in range(197)], "end"]))
        for name, many in (("fits", 1), ("beyond", 2)):
            texts.append("\n".join([f"plan {name}", "use s of some ()", *[f"use p{at} of leaf ()" for at in range(many)],
                                    "end"]))
        plans = parse_plans("\n".join(texts))
        self.assertEqual(build(plans, "fits").count(), 0)
        with self.assertRaises(GateError):
            build(plans, "beyond")

    def test_how_many_gates(self):
        lines = ["in a 32", "in b 32"] + [f"let x{at} = a ^ b" for at in range(398)]
        self.assertEqual(build(parse_plans("\n".join(["plan p", *lines, "end"])), "p").count(), 398 * 32)
        text = "\n".join(["plan p", *lines, "end", "plan two", "in a 32", "use x of p (a = a, b = a)",
                          "use y of p (a = a, b = a)", "end"])
        plans = parse_plans(text)
        shown = [plans[name].lines for name in plans]
        with self.assertRaises(GateError):
            build(plans, "two")
        self.assertEqual([plans[name].lines for name in plans], shown)


if __name__ == "__main__":
    unittest.main()
