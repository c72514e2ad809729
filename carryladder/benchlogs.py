"""Logs of benches: the edits as a text, and benches behind edits."""

from carryladder.benches import Bench
from carryladder.bounds import MAX_EDITS
from carryladder.errors import BadLog, BadText, LadderError
from carryladder.kinds import is_name
from carryladder.machinetexts import machine_text, read_machine
from carryladder.onelines import in_lines, in_one_line
from carryladder.programs import is_book
from carryladder.programtexts import program_text, read_program

# How many items the tuple of each edit has.
SIZES = {"put_machine": 3, "put_program": 3, "make": 4, "take": 3, "drop": 2}


def log_text(log):
    """Return the text of a tuple of edits, a line for each."""
    return "".join([_line_of(edit) + "\n" for edit in log])


def _line_of(edit):
    if edit[0] == "put_machine":
        return f"machine {edit[1]} {in_one_line(machine_text(edit[2]))}"
    if edit[0] == "put_program":
        return f"program {edit[1]} {in_one_line(program_text(edit[2]))}"
    return " ".join(edit)


def read_log(value):
    """Return the edits of which value is the text; BadText(line) with the first line that is of none."""
    if not isinstance(value, str):
        raise BadText(0)
    lines = value.split("\n")
    if lines[-1] == "":
        lines.pop()
    log = []
    for number, line in enumerate(lines):
        edit = _edit_of(line)
        # Texts are read in more than one form, but a log has that alone in which they are written.
        if number == MAX_EDITS or edit is None or _line_of(edit) != line:
            raise BadText(number)
        log.append(edit)
    return tuple(log)


def _edit_of(line):
    """Return the edit that a line may be the text of, or None if it is of none."""
    word, *told = line.split(" ")
    if word in ("machine", "program"):
        return _putting_of(line.split(" ", 2))
    if word not in ("make", "take", "drop") or len(told) + 1 != SIZES[word]:
        return None
    names = told[:2]
    if not (all([is_name(name) for name in names]) and all([is_book(book) for book in told[2:]])):
        return None
    return (word, *told)


def _putting_of(parts):
    if len(parts) < 3 or not is_name(parts[1]):
        return None
    word, name, text = parts
    try:
        if word == "machine":
            return ("put_machine", name, read_machine(in_lines(text)))
        return ("put_program", name, read_program(in_lines(text)))
    except LadderError:
        return None


def bench_behind(many, value):
    """Return a new bench on which the edits of value were done; BadLog(line) with the first that could not be done."""
    bench = Bench(many)
    if not isinstance(value, tuple):
        raise BadLog(0)
    for line, edit in enumerate(value):
        if not _is_edit(edit):
            raise BadLog(line)
        try:
            _do(bench, edit)
        except LadderError:
            raise BadLog(line) from None
    return bench


def _is_edit(value):
    if not (isinstance(value, tuple) and len(value) > 0 and isinstance(value[0], str)):
        return False
    return SIZES.get(value[0]) == len(value)


def _do(bench, edit):
    word, *told = edit
    if word == "put_machine":
        bench.put_machine(*told)
    elif word == "put_program":
        bench.put_program(*told)
    elif word == "make":
        bench.make(*told)
    elif word == "take":
        bench.take(*told)
    else:
        bench.drop(*told)
