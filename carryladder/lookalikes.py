"""Programs beside machines and beside one another, at all widths at once."""

from carryladder.errors import Unfit
from carryladder.partings import parting_at
from carryladder.standings import standing_rows


def tells(program, machine):
    """Tell whether the program does what the machine does at all widths; errors as wrong."""
    return wrong(program, machine) is None


def wrong(program, machine):
    """Return the least width and its first words at which they part, or None."""
    many, rows = machine
    if program[0] != many:
        raise Unfit()
    return parting_at(many, standing_rows(program), rows)


def same(one, other):
    """Tell whether two programs do the same at all widths; errors as unlike."""
    return unlike(one, other) is None


def unlike(one, other):
    """Return the least width and its first words at which two programs part, or None."""
    if one[0] != other[0]:
        raise Unfit()
    return parting_at(one[0], standing_rows(one), standing_rows(other))
