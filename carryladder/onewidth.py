"""Tables of one width, and programs for them."""

from carryladder.bounds import MAX_TABLE
from carryladder.deciding import decided
from carryladder.errors import BadTable, Unfit
from carryladder.kinds import is_integer, is_tuple
from carryladder.rowmaking import RowMaker
from carryladder.running import result


def table_error(value):
    """Return None if value is a table, otherwise the first thing that is wrong with it."""
    if not is_tuple(value, 3, 3):
        return "form"
    many, width, results = value
    if not (is_integer(many, 2) and many > 0):
        return "many"
    if not _is_width(many, width):
        return "width"
    size = 1 << many * width
    if not is_tuple(results, size, size):
        return "results"
    for place, word in enumerate(results):
        if not is_integer(word, (1 << width) - 1):
            return ("result", place)
    return None


def _is_width(many, width):
    return is_integer(width, MAX_TABLE // many) and width > 0


def table_of(program, width):
    """Return the table of a program at a width; Unfit() if it reads no words, or there is none of this width."""
    many = program[0]
    if many == 0 or not _is_width(many, width):
        raise Unfit()
    return many, width, tuple([result(program, width, words) for words in _all_words(many, width)])


def _all_words(many, width):
    """Return all tuples of words in the order of their results in a table."""
    ones = (1 << width) - 1
    return [tuple([place >> j * width & ones for j in range(many)]) for place in range(1 << many * width)]


def hangs_above(table):
    """Return None, or (i, words, others): words alike up to the bit i, whose results differ there.

    BadTable(error) is raised if table is none.
    """
    error = table_error(table)
    if error is not None:
        raise BadTable(error)
    many, width, results = table
    told = list(zip(_all_words(many, width), results))
    for i in range(width):
        firsts = {}
        for words, own in told:
            key = tuple([word & (2 << i) - 1 for word in words])
            others, other = firsts.setdefault(key, (words, own))
            if (own ^ other) >> i & 1:
                return i, others, words
    return None


def at_width(table):
    """Return a program of the book minus that has this table; BadTable(error), or Unfit() if a bit hangs on above."""
    if hangs_above(table) is not None:
        raise Unfit()
    many, width, results = table
    maker = RowMaker(many)
    words = list(range(many))
    told = list(zip(_all_words(many, width), results))
    # The bits of the words at the places below, each brought up to all places above it.
    raised = []
    below = maker.steady(0)
    whole = maker.steady(0)
    for i in range(width):
        # The least word above those below is what is one more than the ones at all places below.
        here = maker.number(("minus", maker.turned(below)))
        bits = decided(maker, raised + words, _bits_at(told, many, i), 1)
        whole = maker.either(whole, maker.both(here, bits))
        raised.extend([maker.above_lowest(maker.both(word, here)) for word in words])
        below = maker.either(below, here)
    return maker.program(whole)


def _bits_at(told, many, i):
    """Return the table of the bits i of the results, by the bits 0 to i of the words, place by place."""
    table = {}
    for words, own in told:
        key = sum([(word >> at & 1) << at * many + j for j, word in enumerate(words) for at in range(i + 1)])
        table[key] = own >> i & 1
    return table
