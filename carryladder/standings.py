"""The standings of a program, as the states of one machine."""

from carryladder.bounds import MAX_PLACES
from carryladder.errors import TooMany
from carryladder.slices import signs_across, vectors_across

KEEPING = ("twice", "minus", "plus", "less", "prefix")


def standing_rows(program):
    """Return the rows of the machine whose states are the standings, 0 being the first one.

    Standings that are come to by equally many letters are gone through together, each with every letter:
    the bits that a row has for all of them are the figures, in base two, of one integer.
    """
    many, rows = program
    periods = sorted(set([len(row[1]) for row in rows if row[0] == "mask"]))
    signs = ["0" * len([row for row in rows if row[0] in KEEPING])]
    numbers = {(_phase(periods, 0), signs[0]): 0}
    table = []
    place = 0
    while signs:
        bits, states = _stepped(program, vectors_across(signs), len(signs), place)
        place += 1
        phase = _phase(periods, place)
        keys = [(phase, own) for own in signs_across(states, len(signs) << many)]
        count = len(signs)
        signs = _numbered(keys, numbers)
        if len(numbers) > MAX_PLACES:
            raise TooMany(MAX_PLACES)
        table.extend(_table_rows([numbers[key] for key in keys], bits, count))
    return tuple(table)


def _phase(periods, place):
    return tuple([place % period for period in periods])


def _numbered(keys, numbers):
    """Give each new key the next number; return the signs of the new ones, in order."""
    fresh = []
    for key in keys:
        if key not in numbers:
            numbers[key] = len(numbers)
            fresh.append(key[1])
    return fresh


def _table_rows(coming, bits, count):
    """Return for each of count standings the tuple of its steps, by letters."""
    steps = [(state, bits >> at & 1) for at, state in enumerate(coming)]
    return [tuple(steps[standing::count]) for standing in range(count)]


def _stepped(program, states, count, place):
    """Return the bits of the last row, and the states behind, for all letters and standings."""
    many, rows = program
    size = count << many
    full = (1 << size) - 1
    spread = full // ((1 << count) - 1)
    states = [state * spread for state in states]
    known = [_letter_bits(j, many, count) for j in range(many)]
    after = []
    for row in rows:
        word = row[0]
        if word == "xor":
            known.append(known[row[1]] ^ known[row[2]])
        elif word == "and":
            known.append(known[row[1]] & known[row[2]])
        elif word == "or":
            known.append(known[row[1]] | known[row[2]])
        elif word == "not":
            known.append(known[row[1]] ^ full)
        elif word == "zero":
            known.append(0)
        elif word == "ones":
            known.append(full)
        elif word == "mask":
            known.append(full if row[1][place % len(row[1])] else 0)
        else:
            bit, state = _kept(word, known[row[1]], known[row[-1]], states[len(after)])
            known.append(bit)
            after.append(state)
    return known[-1], after


def _letter_bits(j, many, count):
    """Return the bits of the word j: the letters stand one behind another, count bits each."""
    block = (1 << count) - 1
    return sum([block << letter * count for letter in range(1 << many) if letter >> j & 1])


def _kept(word, a, b, state):
    """Return the bit of a row that keeps something, and its state behind."""
    if word == "twice":
        return state, a
    if word == "minus":
        return a ^ state, a | state
    if word == "prefix":
        return a ^ state, a ^ state
    unlike = a ^ b
    if word == "plus":
        return unlike ^ state, a ^ unlike & (a ^ state)
    return unlike ^ state, state ^ unlike & (b ^ state)
