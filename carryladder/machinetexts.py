"""Texts of machines, written and read."""

from carryladder.errors import BadMachine, BadText, Unfit
from carryladder.kinds import is_numeral
from carryladder.machines import machine_error

FIGURES = 3


def machine_text(machine):
    """Return the text of a machine."""
    many, rows = machine
    lines = [f"words {many}"]
    for state, row in enumerate(rows):
        steps = [f" {following}/{bit}" for following, bit in row]
        lines.append(f"{state}:" + "".join(steps))
    return "\n".join(lines)


def read_machine(value):
    """Return the machine of a text; Unfit(), BadText(line) or BadMachine(error) if it has none."""
    if not isinstance(value, str):
        raise Unfit()
    lines = _lines_with_parts(value)
    if not lines:
        raise BadText(0)
    head_line, head = lines[0]
    if not _is_head(head):
        raise BadText(head_line)
    rows = []
    for line, parts in lines[1:]:
        if not _is_row(parts, len(rows)):
            raise BadText(line)
        rows.append(tuple([_step_of(part) for part in parts[1:]]))
    machine = (int(head[1]), tuple(rows))
    error = machine_error(machine)
    if error is not None:
        raise BadMachine(error)
    return machine


def _lines_with_parts(text):
    """Return the pairs (line, parts) of the lines that have parts."""
    lines = []
    for line, signs in enumerate(text.split("\n")):
        parts = [part for part in signs.split(" ") if part]
        if parts:
            lines.append((line, parts))
    return lines


def _is_head(parts):
    return len(parts) == 2 and parts[0] == "words" and is_numeral(parts[1], FIGURES)


def _is_row(parts, state):
    # From the state 1000 on no numeral is long enough to be its number.
    if parts[0] != f"{state}:" or not is_numeral(parts[0][:-1], FIGURES):
        return False
    return all([_is_step(part) for part in parts[1:]])


def _is_step(part):
    numerals = part.split("/")
    return len(numerals) == 2 and all([is_numeral(numeral, FIGURES) for numeral in numerals])


def _step_of(part):
    state, bit = part.split("/")
    return int(state), int(bit)
