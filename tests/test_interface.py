"""Point 22 and the interface: names, arguments, fields and kinds of values."""

import ast
import importlib
import inspect
import pathlib
import unittest

from chipstack.building import Builder, build
from chipstack.gates import Netlist, Run
from chipstack.placing import Layout, Placer, first_layout
from chipstack.plans import Plan, parse_plans
from chipstack.plantext import Mark, PlanReader, marks_of
from chipstack.routing import Heap, Router, Routes
from chipstack.simplifying import Simplifier, simplified
from chipstack.tables import Cell, CellRun, Cells, Cut, Mapper, cells_of

PACKAGE = pathlib.Path(__file__).resolve().parent.parent / "chipstack"
TEXT = "plan p\nin a 2\nout b 2\nkeep k 2 = 1\nk <- k + a\nb = k\nend\n"

# Each file's functions, and the methods of its classes, with their arguments as the document lists them.
INTERFACE = {
    "errors": {"ChipError": {}, "PlanError": {}, "GateError": {}, "PlaceError": {}, "BitError": {}, "CodeError": {},
               "RunError": {}},
    "plantext": {
        "Mark": {"": "kind, text, line"}, "marks_of": "text", "mark_at": "line, place, number",
        "PlanReader": {"": "marks", "here": "", "fail": "", "expression": "", "enter": "", "shifted": ""},
        "expression_text": "tree", "strength": "tree"},
    "plans": {
        "Plan": {"": "name, lines", "of": "word", "ins": "", "gives": "", "plan_text": ""}, "line_text": "line",
        "parse_plans": "text", "two_to": "many", "width_of": "tree, widths"},
    "gates": {
        "Netlist": {"": "", "add": "gate", "inputs_of": "place", "keeps": "", "ins": "", "shown": "", "count": "",
                    "levels": ""},
        "check_netlist": "netlist", "gate_value": "gate, values",
        "Run": {"": "netlist", "values": "ins", "given": "ins", "step": "ins", "kept": ""}},
    "building": {
        "Builder": {"": "plans", "gate": "word, *", "expression": "tree, table", "shifted": "sign, rows, many"},
        "build": "plans, name"},
    "simplifying": {
        "Simplifier": {"": "", "put": "gate", "opposite": "place", "are_opposite": "one, other", "gate": "word, inputs"},
        "needed": "netlist", "simplified_once": "netlist", "simplified": "netlist"},
    "tables": {
        "Cell": {"": "inputs, table, first=None", "shown": ""}, "Cells": {"": "cells, outs, ins", "order": ""},
        "Cut": {"": "places, depth", "rank": ""},
        "Mapper": {"": "netlist", "find_cuts": "", "table_of": "place, leaves", "source": "place"},
        "cells_of": "netlist", "CellRun": {"": "cells", "values": "ins", "given": "ins", "step": "ins"}},
    "placing": {
        "Layout": {"": "side, tiles, pads", "spot": "row", "shown": ""}, "nets_of": "cells",
        "net_length": "layout, source, sinks", "total_length": "layout, nets", "first_layout": "cells",
        "Placer": {"": "cells, seed", "roll": "many", "try_swap": "worse", "put": "number, tile, other, there"},
        "place_cells": "cells, seed=1, turns=30", "check_layout": "cells, layout"},
    "routing": {
        "Routes": {"": "", "shown": "", "length": ""}, "Heap": {"": "", "put": "row"},
        "Router": {"": "layout", "add_wire": "source, tile, wall", "is_inside": "tile"}, "far": "one, other",
        "route_cells": "cells, layout"},
}


def arguments_of(function):
    """Return the arguments of a function as a text; those of any number are "*"."""
    found = []
    for one in inspect.signature(function).parameters.values():
        if one.kind == one.VAR_POSITIONAL:
            found.append("*")
        elif one.name != "self":
            found.append(one.name if one.default is one.empty else f"{one.name}={one.default}")
    return ", ".join(found)


def defined_in(name):
    """Return a table of what a file defines: for each function an empty list, for each class its methods."""
    body = ast.parse((PACKAGE / f"{name}.py").read_text()).body
    found = {node.name: [] for node in body if isinstance(node, ast.FunctionDef)}
    for node in body:
        if isinstance(node, ast.ClassDef):
            found[node.name] = [one.name for one in node.body if isinstance(one, ast.FunctionDef)]
    return found


class InterfaceTest(unittest.TestCase):
    def test_names_and_arguments(self):
        for name, told in INTERFACE.items():
            module = importlib.import_module(f"chipstack.{name}")
            for one, arguments in told.items():
                if isinstance(arguments, str):
                    self.assertEqual(arguments_of(getattr(module, one)), arguments, one)
                    continue
                for method, words in arguments.items():
                    function = getattr(getattr(module, one), method or "__init__")
                    self.assertEqual(arguments_of(function), words, (one, method))

    def test_all_is_defined_where_it_is_listed(self):
        for name, told in INTERFACE.items():
            there = defined_in(name)
            for one, arguments in told.items():
                self.assertIn(one, there)
                if not isinstance(arguments, str):
                    for method in arguments:
                        self.assertIn(method or "__init__", there[one])


class KindsTest(unittest.TestCase):
    """The kinds of what is told, and of fields as they are set at the beginning."""

    def setUp(self):
        self.plans = parse_plans(TEXT)
        self.netlist = simplified(build(self.plans, "p"))
        self.cells = cells_of(self.netlist)

    def are(self, kind, *values):
        """Test that values are of a kind, just that one."""
        for value in values:
            self.assertIs(type(value), kind, value)

    def test_plans(self):
        plan = self.plans["p"]
        mark = Mark("name", "a", 1)
        self.are(str, mark.kind, mark.text, plan.name, plan.plan_text())
        self.are(list, marks_of("a"), plan.of("in"))
        self.are(tuple, plan.lines, plan.ins(), plan.gives(), PlanReader(marks_of("a")).expression(),
                 PlanReader(marks_of("a << 1")).shifted(), Plan("a", [("in", "b", 1)]).lines)
        self.are(dict, self.plans)

    def test_gates(self):
        netlist, run = self.netlist, Run(self.netlist)
        self.are(list, netlist.gates, netlist.keeps(), netlist.ins(), netlist.levels(), run.values({"a": 1}))
        self.are(dict, netlist.outs, netlist.nexts, run.state, run.given({"a": 1}), run.step({"a": 1}), run.kept())
        self.are(tuple, netlist.inputs_of(0), netlist.shown())
        self.are(list, Netlist().gates)
        self.are(dict, Netlist().outs, Netlist().nexts)

    def test_building_and_simplifying(self):
        builder, maker = Builder({}), Simplifier()
        self.are(int, builder.zero, builder.one, maker.zero, maker.one, builder.gate("zero"), maker.opposite(0))
        self.are(list, builder.expression(("number", 3, 2), {}), builder.shifted("<<", [0], 1))
        self.are(dict, maker.places)
        self.are(bool, maker.are_opposite(0, 1))

    def test_tables(self):
        cells, mapper = self.cells, Mapper(self.netlist)
        self.are(list, mapper.best, mapper.cells, cells.cells, cells.order())
        self.are(dict, cells.outs, CellRun(cells).state, CellRun(cells).values({"a": 0}), CellRun(cells).given({"a": 0}),
                 CellRun(cells).step({"a": 0}))
        self.are(tuple, cells.pins, cells.cells[0].inputs, cells.cells[0].shown(), Cell([], 0).inputs, Cut([], 0).places,
                 Cut((), 0).rank(), Cells([], {}, []).pins, mapper.source(0))
        self.assertIs(CellRun(cells).cells, cells)

    def test_placing_and_routing(self):
        layout, routes = first_layout(self.cells), Routes()
        self.are(list, layout.tiles, Heap().rows)
        self.are(dict, layout.pads, routes.wires, routes.sources, Router(layout).reached)
        self.are(tuple, layout.shown(), layout.spot(("cell", 0)), routes.shown())
        self.are(Layout, Placer(self.cells, 1).layout)
        self.assertIs(Router(layout).layout, layout)

    def test_what_is_given_is_not_held_where_it_is_changed(self):
        tiles, pads = [(0, 0)], {}
        layout = Layout(1, tiles, pads)
        layout.tiles[0] = (5, 5)
        layout.pads["x"] = 1
        self.assertEqual((tiles, pads), ([(0, 0)], {}))


if __name__ == "__main__":
    unittest.main()
