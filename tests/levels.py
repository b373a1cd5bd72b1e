"""A plan's circuit on all levels, for tests: reckoned, built, simplified, in cells, and found in the bytes."""

from chipstack.building import build
from chipstack.fabric import cells_in, fabric_bytes, fabric_from
from chipstack.gates import Run
from chipstack.plans import parse_plans
from chipstack.simplifying import simplified
from chipstack.tables import CellRun, cells_of
from tests.placed import Placed
from tests.reckon import Reckoning


def run_of(text, name):
    """Return a run of a plan as it is built."""
    return Run(build(parse_plans(text), name))


def netlist_of(text, name):
    """Return the simplified netlist of a plan."""
    return simplified(build(parse_plans(text), name))


def runs_of(text, name):
    """Return runs of a plan: as built, simplified, and in cells."""
    built = build(parse_plans(text), name)
    less = simplified(built)
    return [Run(built), Run(less), CellRun(cells_of(less))]


def found_run(netlist, seed=1):
    """Return a run of the cells that are found in the bytes of a netlist's cells, placed and routed."""
    return CellRun(cells_in(fabric_from(fabric_bytes(Placed(cells_of(netlist), seed=seed).fabric()))))


def all_runs(text, name, seed=1):
    """Return runs of a plan on all levels."""
    plans = parse_plans(text)
    return [Reckoning(plans, name), *runs_of(text, name), found_run(netlist_of(text, name), seed)]


def keeps_of(text, name):
    """Return the names of what a plan keeps, with its parts."""
    return sorted(run_of(text, name).kept())
