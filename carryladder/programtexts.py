"""Texts of programs, written and read."""

from carryladder.bounds import MAX_PERIOD, MAX_ROWS, MAX_WORDS
from carryladder.errors import BadText
from carryladder.instructions import SIZES


def program_text(program):
    """Return the text of a program."""
    many, rows = program
    lines = [f"words {many}"]
    for k, row in enumerate(rows):
        lines.append(f"v{many + k} = {_instruction_text(row)}")
    return "\n".join(lines)


def _instruction_text(row):
    word = row[0]
    if word == "mask":
        return " ".join([word] + [str(bit) for bit in row[1]])
    names = [f"v{operand}" for operand in row[1:]]
    if len(names) == 2:
        return f"{names[0]} {word} {names[1]}"
    return " ".join([word] + names)


def read_program(value):
    """Return the program of which value is the text; BadText(line) if it is of none."""
    if not isinstance(value, str):
        raise BadText(0)
    lines = value.split("\n")
    many = _many_of(lines[0])
    if many is None:
        raise BadText(1)
    # Operands are looked up by name, so numerals of any length are never reckoned.
    numbers = {f"v{j}": j for j in range(many)}
    rows = []
    for line in lines[1:]:
        name = f"v{many + len(rows)}"
        row = _row_of(line, name, numbers)
        if row is None or len(rows) == MAX_ROWS:
            raise BadText(len(rows) + 2)
        numbers[name] = many + len(rows)
        rows.append(row)
    if not rows:
        raise BadText(2)
    return many, tuple(rows)


def _many_of(line):
    for many in range(MAX_WORDS + 1):
        if line == f"words {many}":
            return many
    return None


def _row_of(line, name, numbers):
    """Return the instruction of a line that tells the value of this name, or None."""
    parts = line.split(" ")
    if len(parts) < 3 or parts[:2] != [name, "="]:
        return None
    if parts[2] == "mask":
        return _mask_of(parts[3:])
    return _instruction_of(parts[2:], numbers)


def _mask_of(parts):
    if not (1 <= len(parts) <= MAX_PERIOD and all([part in ("0", "1") for part in parts])):
        return None
    return ("mask", tuple([int(part) for part in parts]))


def _instruction_of(parts, numbers):
    word, names = parts[0], parts[1:]
    if len(parts) == 3:
        word, names = parts[1], [parts[0], parts[2]]
    if SIZES.get(word) != len(parts) or not all([name in numbers for name in names]):
        return None
    return (word,) + tuple([numbers[name] for name in names])
