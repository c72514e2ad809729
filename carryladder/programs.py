"""Programs: what is one, its book, its rows in use, and programs put into one another."""

from carryladder.bounds import MAX_PERIOD, MAX_ROWS
from carryladder.errors import TooMany
from carryladder.instructions import SIZES, operands_of, renumbered
from carryladder.kinds import head_error, is_integer, is_tuple

PLAIN = ("zero", "ones", "not", "and", "or", "xor")

# Each book with the words that it has besides the plain ones.
BOOKS = (
    ("plain", ()),
    ("prefix", ("prefix",)),
    ("twice", ("twice",)),
    ("minus", ("minus",)),
    ("sums", ("twice", "minus", "plus", "less")),
    ("masks", ("twice", "minus", "plus", "less", "mask")),
    ("turns", ("twice", "minus", "plus", "less", "prefix")),
)


def is_book(value):
    """Tell whether value is the name of a book."""
    return isinstance(value, str) and value in [book for book, _ in BOOKS]


def program_error(value):
    """Return None if value is a program, otherwise the first thing that is wrong with it."""
    error = head_error(value, MAX_ROWS)
    if error is not None:
        return error
    many, rows = value
    for k, row in enumerate(rows):
        error = _row_error(row, k, many)
        if error is not None:
            return error
    return None


def _row_error(row, k, many):
    if not _is_row(row):
        return ("row", k)
    if row[0] == "mask":
        return None if _are_bits(row[1]) else ("bits", k)
    for i, operand in enumerate(operands_of(row)):
        if not is_integer(operand, many + k - 1):
            return ("operand", k, i)
    return None


def _is_row(row):
    # What is no str may be no key either, so SIZES is asked last.
    if not (is_tuple(row, 1, 3) and isinstance(row[0], str)):
        return False
    return SIZES.get(row[0]) == len(row)


def _are_bits(bits):
    return is_tuple(bits, 1, MAX_PERIOD) and all([is_integer(bit, 1) for bit in bits])


def book_of(program):
    """Return the first book of which the program is, or None if it is of none."""
    beyond = [row[0] for row in program[1] if row[0] not in PLAIN]
    for book, words in BOOKS:
        if all([word in words for word in beyond]):
            return book
    return None


def neat(program):
    """Return the program without the rows that its last row does not use."""
    many, rows = program
    numbers = list(range(many)) + [None] * len(rows)
    kept = []
    for k in _used(program):
        numbers[many + k] = many + len(kept)
        kept.append(renumbered(rows[k], numbers))
    return many, tuple(kept)


def _used(program):
    """Return the places of the last row and of those that it uses, in order."""
    many, rows = program
    used = [False] * len(rows)
    used[-1] = True
    # A row uses rows ahead of it alone, so one way back finds all.
    for k in reversed(range(len(rows))):
        if used[k]:
            for operand in operands_of(rows[k]):
                if operand >= many:
                    used[operand - many] = True
    return [at for at in range(len(rows)) if used[at]]


def composed(program, parts):
    """Return the program with the results of parts in the place of its words."""
    many = parts[0][0] if parts else 0
    if len(program[1]) + sum([len(part[1]) for part in parts]) > MAX_ROWS:
        raise TooMany(MAX_ROWS)
    rows = []
    results = []
    for part in parts:
        rows.extend(_moved(part[1], list(range(many)), many + len(rows)))
        results.append(many + len(rows) - 1)
    rows.extend(_moved(program[1], results, many + len(rows)))
    return many, tuple(rows)


def _moved(rows, words, first):
    """Return rows with these numbers for the words, and first for the value of the row 0."""
    numbers = words + list(range(first, first + len(rows)))
    return [renumbered(row, numbers) for row in rows]
