"""Answers to the lines of a shell that ask something of its bench."""

from carryladder.benchlogs import log_text
from carryladder.bounds import MAX_WIDTH
from carryladder.carrying import machine_of
from carryladder.counting import lots, noughts, ones_at, ones_in_all
from carryladder.errors import Unfit
from carryladder.hanging import reach
from carryladder.leastmachines import parting
from carryladder.machines import written
from carryladder.machinetexts import machine_text
from carryladder.onelines import in_one_line
from carryladder.papers import paper
from carryladder.programtexts import program_text
from carryladder.rings import rings
from carryladder.rungs import books_of
from carryladder.running import result
from carryladder.turnings import steady, turning


def _machine(bench, name):
    """Return the machine that name names, or that of the program which it names."""
    kind, thing = bench.named(name)
    return thing if kind == "machine" else machine_of(thing)


def _check_width(width):
    if not 1 <= width <= MAX_WIDTH:
        raise Unfit()


def answer_names(bench):
    """Answer which names name something."""
    return " ".join(bench.names()) or "none"


def answer_log(bench):
    """Answer which edits stand."""
    return log_text(bench.edits)[:-1] or "none"


def answer_what(bench, name):
    """Answer what lies under a name, and how great it is."""
    kind, thing = bench.named(name)
    parts = "states" if kind == "machine" else "rows"
    return f"{kind} of {len(thing[1])} {parts}"


def answer_show(bench, name):
    """Answer the text of what lies under a name."""
    kind, thing = bench.named(name)
    return in_one_line(machine_text(thing) if kind == "machine" else program_text(thing))


def answer_run(bench, name, width, *words):
    """Answer what the machine or program writes for words of a width."""
    kind, thing = bench.named(name)
    _check_width(width)
    if len(words) != bench.many or not all([word >> width == 0 for word in words]):
        raise Unfit()
    return str(written(thing, width, words) if kind == "machine" else result(thing, width, words))


def answer_books(bench, name):
    """Answer on which books the machine stands."""
    return " ".join(books_of(_machine(bench, name))) or "none"


def answer_paper(bench, name, book):
    """Answer why the machine does not stand on a book, if so."""
    found = paper(_machine(bench, name), book)
    if found is None:
        return "stands"
    return " ".join([_told(item) for item in found])


def _told(item):
    if isinstance(item, tuple):
        return "".join([str(letter) for letter in item])
    return str(item)


def answer_alike(bench, one, other):
    """Answer whether two things do the same, or where they part."""
    # Both names are looked up ahead of what may be raised for programs.
    bench.named(one)
    bench.named(other)
    first = _machine(bench, one)
    apart = parting(first, _machine(bench, other))
    if apart is None:
        return "alike"
    width, words = apart
    return f"apart at {width}:" + "".join([f" {word}" for word in words])


def answer_rings(bench, name, string):
    """Answer the rings of the turning by a string."""
    bench.named(name)
    if max(string) >> bench.many:
        raise Unfit()
    found = rings(turning(_machine(bench, name), string))
    return "; ".join([" ".join([str(state) for state in ring]) for ring in found])


def answer_steady(bench, name):
    """Answer from how many letters on the lots are steady."""
    return str(steady(_machine(bench, name))[0])


def answer_count(bench, name, width):
    """Answer for how many words nought is written, and how many ones are written for all of them."""
    bench.named(name)
    _check_width(width)
    machine = _machine(bench, name)
    return f"{noughts(machine, width)} {ones_in_all(machine, width)}"


def answer_ones(bench, name, i):
    """Answer for how many words a one is written at the bit i."""
    bench.named(name)
    if i >= MAX_WIDTH:
        raise Unfit()
    return str(ones_at(_machine(bench, name), i))


def answer_lots(bench, name, width):
    """Answer by how many words each state is come to."""
    bench.named(name)
    _check_width(width)
    return " ".join([str(count) for count in lots(_machine(bench, name), width)])


def answer_reach(bench, name, j):
    """Answer how far written bits hang on those of a word."""
    bench.named(name)
    if j >= bench.many:
        raise Unfit()
    greatest = reach(_machine(bench, name), j)
    if greatest is None:
        return "endless"
    return "never" if greatest < 0 else str(greatest)


# By the first word of a line what answers it.
ASKING = {
    "names": answer_names,
    "log": answer_log,
    "what": answer_what,
    "show": answer_show,
    "run": answer_run,
    "books": answer_books,
    "paper": answer_paper,
    "alike": answer_alike,
    "rings": answer_rings,
    "steady": answer_steady,
    "count": answer_count,
    "ones": answer_ones,
    "lots": answer_lots,
    "reach": answer_reach,
}
