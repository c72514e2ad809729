"""The lines that a shell understands, and their parts."""

from carryladder.kinds import is_name, is_numeral
from carryladder.programs import is_book

FIGURES = 78
LETTERS = 400

# What stands behind the first word of a line; "numerals" are any number of them.
SHAPES = {
    "begin": ("numeral",),
    "machine": ("name", "text"),
    "program": ("name", "text"),
    "make": ("name", "name", "book"),
    "take": ("name", "name"),
    "drop": ("name",),
    "undo": (),
    "names": (),
    "log": (),
    "what": ("name",),
    "show": ("name",),
    "run": ("name", "numeral", "numerals"),
    "books": ("name",),
    "paper": ("name", "book"),
    "alike": ("name", "name"),
    "rings": ("name", "string"),
    "steady": ("name",),
    "count": ("name", "numeral"),
    "ones": ("name", "numeral"),
    "lots": ("name", "numeral"),
    "reach": ("name", "numeral"),
}


def parts_of(line):
    """Return the pair of the first word of a line and the tuple of what its other parts mean, or None."""
    if not isinstance(line, str):
        return None
    word, *parts = line.split(" ")
    if word not in SHAPES:
        return None
    shape = list(SHAPES[word])
    if "text" in shape:
        parts = line.split(" ", 2)[1:]
    if "numerals" in shape:
        shape = shape[:-1] + ["numeral"] * (len(parts) - len(shape) + 1)
    if len(parts) != len(shape) or not all([_is_of(part, kind) for part, kind in zip(parts, shape)]):
        return None
    return word, tuple([_meant(part, kind) for part, kind in zip(parts, shape)])


def _is_of(part, kind):
    if kind == "name":
        return is_name(part)
    if kind == "numeral":
        return is_numeral(part, FIGURES)
    if kind == "book":
        return is_book(part)
    if kind == "string":
        return 1 <= len(part) <= LETTERS and all([sign in "0123" for sign in part])
    return True


def _meant(part, kind):
    if kind == "numeral":
        return int(part)
    if kind == "string":
        return tuple([int(sign) for sign in part])
    return part
