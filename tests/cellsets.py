"""Cells for tests of placing and routing: some that are drawn, and as many as one likes."""

import random

from chipstack.tables import Cell, Cells


def bits_named(name, many):
    """Return (name, bit) of so many bits, at most 32 of a name."""
    return [(f"{name}{at // 32}", at % 32) for at in range(many)]


def plain_cells(many, ins, outs):
    """Return cells that read nothing, with so many bits that come in, and that go out from the first cell."""
    return Cells([Cell([], 0) for _ in range(many)], {key: 0 for key in bits_named("y", outs)}, bits_named("a", ins))


def drawn_cells(seed, many, ins, outs, near=30):
    """Return cells that are drawn; most inputs are of cells of near numbers, and some cells keep."""
    draw = random.Random(seed)
    pins = bits_named("a", ins)
    rows = []
    for number in range(many):
        inputs = []
        for _ in range(draw.randint(1, 4)):
            if number == 0 or draw.random() < 0.1:
                inputs.append(("in", *draw.choice(pins)))
            else:
                inputs.append(("cell", draw.randrange(max(0, number - near), number)))
        rows.append(Cell(inputs, draw.randrange(1 << (1 << len(inputs))), draw.choice([None, None, None, 0, 1])))
    return Cells(rows, {key: draw.randrange(many) for key in bits_named("y", outs)}, pins)


def shown_cells(cells):
    """Return all that cells tell."""
    return [cell.shown() for cell in cells.cells], dict(cells.outs), cells.pins
