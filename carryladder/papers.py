"""Papers: why a machine has no program of a book."""

from carryladder.leastmachines import least
from carryladder.rings import rings
from carryladder.turnings import steady, turning, turnings
from carryladder.ways import string_leading


def paper(machine, book):
    """Return a paper of machine for book, or None if it stands on book.

    TooMany(limit) is raised where turnings or steady raise it for the least machine.
    """
    small = least(machine)
    if book == "plain":
        return ("two", 1) if len(small[1]) > 1 else None
    if book == "prefix":
        return _merge(small) or _odd(small)
    if book == "twice":
        return _both(small)
    if book == "minus":
        return _back(small)
    if book == "sums":
        return _ring(small)
    if book == "masks":
        return _even(small)
    return _odd(small)


def _merge(machine):
    """Return the paper that a letter leads two states to one, or None."""
    many, rows = machine
    for letter in range(1 << many):
        moves = turning(machine, (letter,))
        for p, q in _pairs_of_states(rows):
            if moves[p] == moves[q]:
                return "merge", p, q, letter
    return None


def _pairs_of_states(rows):
    return [(p, q) for q in range(len(rows)) for p in range(q)]


def _both(machine):
    """Return the paper that a string leads each of two states back to itself, or None."""
    rows = machine[1]
    for p, q in _pairs_of_states(rows):
        string = string_leading(rows, (p, q), (p, q))
        if string is not None:
            return "both", p, q, string
    return None


def _back(machine):
    """Return the paper that a state is left and come to again, or None."""
    rows = machine[1]
    for p, q in _pairs_of_states(rows):
        string = string_leading(rows, (p,), (q,))
        other = string_leading(rows, (q,), (p,))
        if string is not None and other is not None:
            return "back", p, string, other
    return None


def _ring(machine):
    """Return the paper that a string turns some states, or None."""
    for moves, string in turnings(machine):
        for ring in rings(moves):
            if len(ring) > 1:
                return "ring", ring[0], string
    return None


def _odd(machine):
    """Return the paper that a string has a ring of an odd length of 3 or more, or None."""
    for moves, string in turnings(machine):
        for ring in rings(moves):
            if len(ring) > 1 and len(ring) & 1:
                return "odd", ring[0], string
    return None


def _even(machine):
    """Return the paper that of two strings as long one turns states by which the other one stays, or None."""
    # The lot that steady tells holds, for each of its turnings, this again and again, too; and if
    # there are two such strings of any length, there are two in it.
    _, pairs = steady(machine)
    strings = dict(pairs)
    for moves, string in pairs:
        for ring in rings(moves):
            if len(ring) > 1:
                return "even", ring[0], string, strings[_again(moves, len(ring))]
    return None


def _again(moves, times):
    """Return the turning that is moves so many times."""
    states = tuple(range(len(moves)))
    for _ in range(times):
        states = tuple([moves[state] for state in states])
    return states
