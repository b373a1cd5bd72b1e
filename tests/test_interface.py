"""Point 22 and the interface: names, arguments, fields and kinds of values."""

import ast
import importlib
import inspect
import pathlib
import unittest

from chipstack.assembler import assemble, instruction_of, line_parts, listing
from chipstack.building import Builder, build
from chipstack.chains import chain_order, set_by_chain, with_chain
from chipstack.compiling import Compiler, compile_program, is_idle, shortened, without
from chipstack.core import Board, core_text
from chipstack.desk import Desk, bits_of
from chipstack.direct import Maker, direct_text, run_direct
from chipstack.equality import (Deciding, Difference, bit_names, difference, ends_of, nodes_of, numbers_by, settled_nodes,
                                shows)
from chipstack.fabric import (MARK, Fabric, Finder, Tile, cells_in, choice_of, fabric_bytes, fabric_from, sum_bytes)
from chipstack.fast import fast_text
from chipstack.faults import Test, TestMaker, all_faults, ends_by, fewer, finds, found_by, tests_for
from chipstack.gates import Netlist, Run
from chipstack.guarding import guard_text, mend_text, odd_of, rest_text, spots_of
from chipstack.isa import INSTRUCTIONS, JUMPS, PLAIN, Machine, Size, decoded, encoded
from chipstack.pipes import Stager, in_stages
from chipstack.placing import Layout, Placer, first_layout
from chipstack.plans import Plan, parse_plans
from chipstack.plantext import Mark, PlanReader, marks_of
from chipstack.programs import LineReader, Program, parse_program, program_text, tree_text, words_of
from chipstack.routing import Heap, Router, Routes
from chipstack.simplifying import Simplifier, simplified
from chipstack.states import Explorer, input_tables, same_states
from chipstack.station import Station, line_of, loader_text, program_bytes, station_text
from chipstack.tables import Cell, CellRun, Cells, Cut, Mapper, cells_of
from chipstack.timing import TimedRun, Timing, neighbour, number_of, value_at, wires_back
from chipstack.traffic import queue_text, receiver_text, sender_text, turns_text
from chipstack.units import (check_size, first_text, gray_text, ones_text, plan_of, product_text, quotient_text, sorted_text,
                             turned_text)
from chipstack.waves import Wave, head_of, number_of_text, read_wave
from tests.placed import Placed

PACKAGE = pathlib.Path(__file__).resolve().parent.parent / "chipstack"
TEXT = "plan p\nin a 2\nout b 2\nkeep k 2 = 1\nk <- k + a\nb = k\nend\n"

# Each file's functions, and the methods of its classes, with their arguments as the document lists them.
INTERFACE = {
    "errors": {"ChipError": {}, "PlanError": {}, "GateError": {}, "PlaceError": {}, "BitError": {}, "CodeError": {},
               "RunError": {}},
    "plantext": {
        "Mark": {"": "kind, text, line"}, "marks_of": "text", "mark_at": "line, place, number",
        "PlanReader": {"": "marks", "here": "", "fail": "", "expression": "", "enter": "", "shifted": ""},
        "expression_text": "tree", "strength": "tree"},
    "plans": {
        "Plan": {"": "name, lines", "of": "word", "ins": "", "gives": "", "plan_text": ""}, "line_text": "line",
        "parse_plans": "text", "two_to": "many", "width_of": "tree, widths"},
    "gates": {
        "Netlist": {"": "", "add": "gate", "inputs_of": "place", "keeps": "", "ins": "", "shown": "", "count": "",
                    "levels": ""},
        "check_netlist": "netlist", "gate_value": "gate, values",
        "Run": {"": "netlist", "values": "ins", "given": "ins", "step": "ins", "kept": ""}},
    "building": {
        "Builder": {"": "plans", "gate": "word, *", "expression": "tree, table", "shifted": "sign, rows, many"},
        "build": "plans, name"},
    "simplifying": {
        "Simplifier": {"": "", "put": "gate", "opposite": "place", "are_opposite": "one, other", "gate": "word, inputs"},
        "needed": "netlist", "simplified_once": "netlist", "simplified": "netlist"},
    "tables": {
        "Cell": {"": "inputs, table, first=None", "shown": ""}, "Cells": {"": "cells, outs, ins", "order": ""},
        "Cut": {"": "places, depth", "rank": ""},
        "Mapper": {"": "netlist", "find_cuts": "", "table_of": "place, leaves", "source": "place"},
        "cells_of": "netlist", "CellRun": {"": "cells", "values": "ins", "given": "ins", "step": "ins"}},
    "placing": {
        "Layout": {"": "side, tiles, pads", "spot": "row", "shown": ""}, "nets_of": "cells",
        "net_length": "layout, source, sinks", "total_length": "layout, nets", "first_layout": "cells",
        "Placer": {"": "cells, seed", "roll": "many", "try_swap": "worse", "put": "number, tile, other, there"},
        "place_cells": "cells, seed=1, turns=30", "check_layout": "cells, layout"},
    "routing": {
        "Routes": {"": "", "shown": "", "length": ""}, "Heap": {"": "", "put": "row"},
        "Router": {"": "layout", "add_wire": "source, tile, wall", "is_inside": "tile"}, "far": "one, other",
        "route_cells": "cells, layout"},
    "timing": {
        "Timing": {"": ""}, "wires_back": "routes, layout, ways, source, number", "neighbour": "tile, wall",
        "timing_of": "cells, layout, routes, ways",
        "TimedRun": {"": "cells, timing, beat", "step": "ins", "changes": "number, ins, seen"},
        "value_at": "rows, time", "number_of": "bits"},
    "fabric": {
        "Tile": {"": "table, keeps, first, inputs, wires", "shown": ""},
        "Fabric": {"": "side, tracks, tiles, pads", "tile": "x, y", "shown": ""}, "choice_of": "way, tracks",
        "fabric_of": "cells, layout, routes, ways", "fabric_bytes": "fabric", "sum_bytes": "rows", "fabric_from": "rows",
        "cells_in": "fabric", "Finder": {"": "fabric", "source": "x, y, choice"}},
    "isa": {
        "Size": {"": "data, code", "argument": "", "width": ""}, "check_instruction": "row, size", "encoded": "row, size",
        "decoded": "code, size",
        "Machine": {"": "size, code, coming=()", "instruction": "", "step": "", "run": "most", "shown": ""}},
    "assembler": {
        "line_parts": "line", "check_label": "name", "assemble": "text, size", "instruction_of": "words, places",
        "listing": "code"},
    "programs": {
        "Program": {"": "numbers, rows, body", "shown": ""}, "words_of": "line",
        "LineReader": {"": "marks", "here": "", "expression": "", "index": ""}, "parse_program": "text",
        "program_text": "program", "tree_text": "tree, level=0"},
    "compiling": {
        "Compiler": {"": "size, program", "add": "word, number=0", "here": "label", "expression": "tree"},
        "compile_program": "program, size", "shortened": "code", "is_idle": "code, place", "without": "code, gone"},
    "core": {
        "core_text": "size",
        "Board": {"": "circuit, size, code, coming=()", "code_at": "place", "beat": "", "run": "most", "shown": ""}},
    "equality": {
        "Deciding": {"": "", "node": "place, low, high", "pick": "test, one, other", "gate": "gate, nodes",
                     "some_way": "node"},
        "bit_names": "netlist", "nodes_of": "netlist, names, deciding, still", "settled_nodes": "netlist, names, deciding",
        "ends_of": "netlist, still", "Difference": {"": "end, ins, kept"}, "difference": "one, other",
        "numbers_by": "names, way, word", "shows": "netlist, found"},
    "faults": {
        "Test": {"": "ins, kept", "shown": ""}, "all_faults": "netlist", "ends_by": "netlist, test, fault=None",
        "finds": "netlist, test, fault", "found_by": "netlist, tests",
        "TestMaker": {"": "netlist, seed", "roll": "many", "next_test": ""}, "tests_for": "netlist, seed=1, most=100",
        "fewer": "netlist, tests"},
    "chains": {"with_chain": "netlist", "chain_order": "netlist", "set_by_chain": "run, ins, bits"},
    "waves": {
        "Wave": {"": "widths", "add": "table", "wave_text": "", "changes": "name", "first_unlike": "other"},
        "read_wave": "text", "head_of": "line", "number_of_text": "text"},
    "units": {
        "check_size": "number, least, most", "plan_of": "name, lines", "product_text": "width", "quotient_text": "width",
        "turned_text": "width", "ones_text": "width", "first_text": "width", "sorted_text": "many, width",
        "gray_text": "width"},
    "traffic": {
        "queue_text": "places, width", "turns_text": "many", "sender_text": "width, beats",
        "receiver_text": "width, beats"},
    "guarding": {
        "spots_of": "width", "odd_of": "name, bits", "guard_text": "width", "mend_text": "width",
        "rest_text": "width, pattern"},
    "pipes": {"in_stages": "netlist, many", "Stager": {"": "netlist, many"}},
    "direct": {
        "Maker": {"": "program, data", "add": "deed, following=None"}, "direct_text": "program, data",
        "run_direct": "circuit, data, coming, most"},
    "fast": {"fast_text": "size"},
    "states": {
        "input_tables": "netlist",
        "Explorer": {"": "netlist", "put": "state", "way_to": "state", "first_on": "name", "unanswered": "ask, answer, many",
                     "can_return": ""},
        "same_states": "explorer"},
    "station": {
        "program_bytes": "code, size", "loader_text": "size", "station_text": "size, beats", "line_of": "sender, data, gaps",
        "Station": {"": "circuit, machine, size, coming=()", "run": "line, most"}},
    "desk": {"Desk": {"": "", "enter": "line", "beat": "rest", "run": "rest"}, "bits_of": "rows"},
}


def arguments_of(function):
    """Return the arguments of a function as a text; those of any number are "*"."""
    found = []
    for one in inspect.signature(function).parameters.values():
        if one.kind == one.VAR_POSITIONAL:
            found.append("*")
        elif one.name != "self":
            found.append(one.name if one.default is one.empty else f"{one.name}={one.default}")
    return ", ".join(found)


def defined_in(name):
    """Return a table of what a file defines: for each function an empty list, for each class its methods."""
    body = ast.parse((PACKAGE / f"{name}.py").read_text()).body
    found = {node.name: [] for node in body if isinstance(node, ast.FunctionDef)}
    for node in body:
        if isinstance(node, ast.ClassDef):
            found[node.name] = [one.name for one in node.body if isinstance(one, ast.FunctionDef)]
    return found


class InterfaceTest(unittest.TestCase):
    def test_names_and_arguments(self):
        for name, told in INTERFACE.items():
            module = importlib.import_module(f"chipstack.{name}")
            for one, arguments in told.items():
                if isinstance(arguments, str):
                    self.assertEqual(arguments_of(getattr(module, one)), arguments, one)
                    continue
                for method, words in arguments.items():
                    function = getattr(getattr(module, one), method or "__init__")
                    self.assertEqual(arguments_of(function), words, (one, method))

    def test_all_is_defined_where_it_is_listed(self):
        for name, told in INTERFACE.items():
            there = defined_in(name)
            for one, arguments in told.items():
                self.assertIn(one, there)
                if not isinstance(arguments, str):
                    for method in arguments:
                        self.assertIn(method or "__init__", there[one])


class KindsTest(unittest.TestCase):
    """The kinds of what is told, and of fields as they are set at the beginning."""

    def setUp(self):
        self.plans = parse_plans(TEXT)
        self.netlist = simplified(build(self.plans, "p"))
        self.cells = cells_of(self.netlist)

    def are(self, kind, *values):
        """Test that values are of a kind, just that one."""
        for value in values:
            self.assertIs(type(value), kind, value)

    def test_plans(self):
        plan = self.plans["p"]
        mark = Mark("name", "a", 1)
        self.are(str, mark.kind, mark.text, plan.name, plan.plan_text())
        self.are(list, marks_of("a"), plan.of("in"))
        self.are(tuple, plan.lines, plan.ins(), plan.gives(), PlanReader(marks_of("a")).expression(),
                 PlanReader(marks_of("a << 1")).shifted(), Plan("a", [("in", "b", 1)]).lines)
        self.are(dict, self.plans)

    def test_gates(self):
        netlist, run = self.netlist, Run(self.netlist)
        self.are(list, netlist.gates, netlist.keeps(), netlist.ins(), netlist.levels(), run.values({"a": 1}))
        self.are(dict, netlist.outs, netlist.nexts, run.state, run.given({"a": 1}), run.step({"a": 1}), run.kept())
        self.are(tuple, netlist.inputs_of(0), netlist.shown())
        self.are(list, Netlist().gates)
        self.are(dict, Netlist().outs, Netlist().nexts)

    def test_building_and_simplifying(self):
        builder, maker = Builder({}), Simplifier()
        self.are(int, builder.zero, builder.one, maker.zero, maker.one, builder.gate("zero"), maker.opposite(0))
        self.are(list, builder.expression(("number", 3, 2), {}), builder.shifted("<<", [0], 1))
        self.are(dict, maker.places)
        self.are(bool, maker.are_opposite(0, 1))

    def test_tables(self):
        cells, mapper = self.cells, Mapper(self.netlist)
        self.are(list, mapper.best, mapper.cells, cells.cells, cells.order())
        self.are(dict, cells.outs, CellRun(cells).state, CellRun(cells).values({"a": 0}), CellRun(cells).given({"a": 0}),
                 CellRun(cells).step({"a": 0}))
        self.are(tuple, cells.pins, cells.cells[0].inputs, cells.cells[0].shown(), Cell([], 0).inputs, Cut([], 0).places,
                 Cut((), 0).rank(), Cells([], {}, []).pins, mapper.source(0))
        self.assertIs(CellRun(cells).cells, cells)

    def test_placing_and_routing(self):
        layout, routes = first_layout(self.cells), Routes()
        self.are(list, layout.tiles, Heap().rows)
        self.are(dict, layout.pads, routes.wires, routes.sources, Router(layout).reached)
        self.are(tuple, layout.shown(), layout.spot(("cell", 0)), routes.shown())
        self.are(Layout, Placer(self.cells, 1).layout)
        self.assertIs(Router(layout).layout, layout)

    def test_timing_and_fabric(self):
        placed = Placed(self.cells)
        timing, fabric = placed.timing(), placed.fabric()
        run = TimedRun(self.cells, timing, timing.longest)
        self.are(dict, Timing().there, Timing().reaches, timing.there, timing.reaches, run.state, run.before,
                 run.step({"a": 1}), run.before, Finder(fabric).pads)
        self.are(int, timing.longest, timing.worst, Timing().longest, value_at(((0, 1),), 0), number_of([1]))
        self.are(list, wires_back(*placed.all[2:0:-1], placed.ways, ("cell", 0), 0), fabric.tiles)
        self.are(tuple, neighbour((0, 0), 1), fabric.shown(), fabric.pads, fabric.tiles[0].inputs, fabric.tiles[0].wires,
                 fabric.tiles[0].shown(), fabric_bytes(fabric), sum_bytes([1]), Finder(fabric).source(0, 0, 0), MARK)
        self.are(bool, fabric.tiles[0].holds)
        self.are(int, *fabric_bytes(fabric), fabric.tiles[0].first, choice_of(("tile",), 1))
        self.are(Fabric, fabric, fabric_from(fabric_bytes(fabric)))
        self.are(Tile, fabric.tile(0, 0), *fabric.tiles)
        self.are(Cells, cells_in(fabric))

    def test_instructions_and_programs(self):
        machine, program = Machine(Size(4, 4), [("set", 1)], (1,)), parse_program("var a = 1\nrows r 2\nout r[a]")
        self.are(tuple, INSTRUCTIONS, PLAIN, JUMPS, machine.code, machine.instruction(), machine.shown(), decoded(0, Size(4, 4)),
                 line_parts("a: out"), assemble("out", Size(4, 4)), instruction_of(["out"], {}), program.body, program.shown(),
                 LineReader(["a"]).expression(), LineReader(["[", "a", "]"]).index())
        self.are(list, machine.coming, machine.memory, machine.sent, *line_parts("a: out"), words_of("a"))
        self.are(bool, machine.halted, machine.run(1), machine.run(9), machine.halted)
        self.are(str, listing([("out", 0)]), program_text(program), tree_text(("in",)), LineReader([]).here())
        self.are(int, encoded(("set", 1), Size(4, 4)), Size(2, 3).data, Size(2, 3).code, Size(2, 3).width())
        self.are(dict, program.rows)
        self.are(Program, program)

    def test_compiling_and_the_core(self):
        size, program = Size(4, 4), parse_program("var a = 1\nout a")
        compiler, board = Compiler(size, program), Board(Run(self.netlist), size, [("set", 1)], (1,))
        self.are(dict, compiler.places)
        self.are(list, compiler.code, board.codes, board.coming, board.memory, board.sent)
        self.are(tuple, compile_program(program, size), shortened([("jump", 1)]), without([("jump", 1)], 0), board.shown())
        self.are(bool, is_idle([("jump", 1)], 0), is_idle([("out", 0)], 0), board.halted, board.run(0))
        self.are(int, board.beats, board.code_at(0), board.code_at(9))
        self.are(str, core_text(size))

    def test_equality_faults_and_chains(self):
        netlist, names = self.netlist, bit_names(self.netlist)
        other = build(parse_plans(TEXT.replace("k + a", "k - a")), "p")
        nodes, still = settled_nodes(netlist, names, Deciding())
        found, test = difference(netlist, other), TestMaker(netlist, 1).next_test()
        self.are(Difference, found)
        self.are(tuple, names, found.end, settled_nodes(netlist, names, Deciding()), all_faults(netlist), test.shown(),
                 ends_by(netlist, test), found_by(netlist, [test]), tests_for(netlist), *tests_for(netlist),
                 fewer(netlist, [test]), chain_order(netlist), set_by_chain(Run(with_chain(netlist)), {"a": 0}, [0, 1]))
        self.are(list, nodes, nodes_of(netlist, names, Deciding(), {}))
        self.are(dict, still, ends_of(netlist, {}), found.comes, found.stored, numbers_by(names, {}, "in"), test.comes,
                 test.stored, TestMaker(netlist, 1).widths, Deciding().some_way(1))
        self.are(int, shows(netlist, found), TestMaker(netlist, 1).roll(5), Deciding().node(0, 0, 1), *nodes)
        self.are(bool, finds(netlist, test, (2, 1)))
        self.are(Test, test, *tests_for(netlist)[0])
        self.are(Netlist, with_chain(netlist))

    def test_waves_units_and_pipes(self):
        wave = Wave([["a", 4]])
        wave.add({"a": 3})
        self.are(tuple, wave.widths, wave.widths[0], wave.rows[0], wave.changes("a"), wave.changes("a")[0], head_of("a 1"),
                 wave.first_unlike(read_wave("a 4\n\n#0 a=1\n")), spots_of(4))
        self.are(list, wave.rows, Wave([]).rows, *spots_of(4), Stager(self.netlist, 2).stages)
        self.are(str, wave.wave_text(), plan_of("p", []), odd_of("a", [1]), product_text(1), quotient_text(1),
                 turned_text(2), ones_text(1), first_text(1), sorted_text(2, 1), gray_text(1), queue_text(1, 1),
                 turns_text(2), sender_text(1, 1), receiver_text(1, 1), guard_text(4), mend_text(4), rest_text(1, 0))
        self.are(int, number_of_text("12"))
        self.are(Wave, read_wave("\n"))
        self.are(Netlist, in_stages(Netlist(), 1))
        self.assertIsNone(check_size(1, 1, 1))

    def test_programs_as_circuits_and_states(self):
        program = parse_program("out in")
        told = run_direct(Run(build(parse_plans(direct_text(program, 4)), "direct")), 4, [3], 9)
        explorer = Explorer(self.netlist)
        self.are(tuple, told, told[0], list(explorer.states)[0], explorer.states[(1, 0)])
        self.are(bool, told[1], explorer.can_return())
        self.are(list, input_tables(self.netlist), explorer.way_to((1, 0)), explorer.first_on("b"),
                 explorer.unanswered("b", "none", 0))
        self.are(dict, explorer.states, same_states(explorer), *input_tables(self.netlist), *explorer.first_on("b"))
        self.are(int, Maker(program, 4).data, Maker(program, 4).add(None))
        self.are(str, direct_text(program, 4), fast_text(Size(4, 4)))
        self.assertIsNone(explorer.put((1, 0)))
        self.assertIsNone(explorer.first_on("none"))

    def test_the_station_and_the_desk(self):
        size, desk = Size(4, 4), Desk()
        plans = parse_plans(station_text(size, 1) + core_text(size) + sender_text(8, 1))
        station = Station(Run(build(plans, "station")), Run(build(plans, "core")), size, [1, 2])
        line = line_of(Run(build(plans, "sender")), (1, 0), [])
        self.are(tuple, station.coming, program_bytes([], size), line)
        self.are(list, station.codes, bits_of([("a", 1)]))
        self.are(bool, station.spoilt, station.run(line, 5), station.spoilt)
        self.are(int, station.words, *station.codes, *line)
        self.are(Board, station.board)
        self.are(str, loader_text(size), station_text(size, 1), desk.enter("x"), desk.enter("size 4 4"))
        for one in ("program out 1", "core", "build core", "cells", "place 1"):
            desk.enter(one)
        self.are(tuple, desk.code)
        self.are(Cells, desk.cells)
        self.are(Layout, desk.layout)

    def test_what_is_given_is_not_held_where_it_is_changed(self):
        tiles, pads = [(0, 0)], {}
        layout = Layout(1, tiles, pads)
        layout.tiles[0] = (5, 5)
        layout.pads["x"] = 1
        self.assertEqual((tiles, pads), ([(0, 0)], {}))


if __name__ == "__main__":
    unittest.main()
