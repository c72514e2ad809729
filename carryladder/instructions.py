"""The twelve instructions, and how their operands are numbered anew."""

SIZES = {
    "zero": 1,
    "ones": 1,
    "not": 2,
    "and": 3,
    "or": 3,
    "xor": 3,
    "twice": 2,
    "minus": 2,
    "plus": 3,
    "less": 3,
    "mask": 2,
    "prefix": 2,
}


def operands_of(row):
    """Return the tuple of the operands of an instruction."""
    if row[0] == "mask":
        return ()
    return row[1:]


def renumbered(row, numbers):
    """Return the instruction with numbers[operand] in the place of each operand."""
    if row[0] == "mask":
        return row
    return (row[0],) + tuple([numbers[operand] for operand in row[1:]])
