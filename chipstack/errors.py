"""Errors: every failure is a ChipError, which is a ValueError."""


class ChipError(ValueError):
    """The base of all errors of this package."""


class PlanError(ChipError):
    """A plan's text, a name or a width is invalid."""


class GateError(ChipError):
    """Gates are invalid, or too many."""


class PlaceError(ChipError):
    """Cells do not fit, or wires cannot be laid."""


class BitError(ChipError):
    """Bits of a fabric are invalid."""


class CodeError(ChipError):
    """An instruction, a line of code or a program is invalid."""


class RunError(ChipError):
    """A machine cannot go on."""
