"""Least machines, and where two machines part."""

from carryladder.errors import Unfit
from carryladder.letters import words_of


def least(machine):
    """Return the machine of the fewest states that writes the same, its states in order."""
    many, rows = machine
    reached = _in_order(rows)
    return many, _in_order(_merged(reached, _classes(reached)))


def _in_order(rows):
    """Return the rows of the states that strings come to, numbered as they are come to."""
    order = [0]
    numbers = {0: 0}
    at = 0
    while at < len(order):
        row = rows[order[at]]
        for state, _ in row:
            if state not in numbers:
                numbers[state] = len(order)
                order.append(state)
        at += 1
    return tuple([_with_states(rows[old], numbers) for old in order])


def _with_states(row, numbers):
    """Return the row with numbers[state] in the place of each state."""
    return tuple([(numbers[state], bit) for state, bit in row])


def _classes(rows):
    """Return for each state the number of its class, being those that write alike.

    Classes are numbered as they first come, so equal splits are equal lists.
    """
    classes = [0] * len(rows)
    while True:
        told = {}
        finer = []
        for row in rows:
            finer.append(told.setdefault(_with_states(row, classes), len(told)))
        if finer == classes:
            return classes
        classes = finer


def _merged(rows, classes):
    """Return one row for each class, that of its first state."""
    merged = []
    for row, own in zip(rows, classes):
        if own == len(merged):
            merged.append(_with_states(row, classes))
    return merged


def alike(one, other):
    """Tell whether both machines write the same at every width; Unfit() as parting."""
    return parting(one, other) is None


def parting(one, other):
    """Return the least width and its first words at which the machines part, or None."""
    many, rows = one
    if many != other[0]:
        raise Unfit()
    string = _parting_string(rows, other[1])
    if string is None:
        return None
    return len(string), words_of(many, string)


def _parting_string(rows, others):
    """Return the shortest string, and of these the first one, by which the rows part."""
    # Pairs of states are gone through in the order of the first strings that come to them,
    # shorter strings ahead of longer ones, so the first string that parts is the one wanted.
    strings = {(0, 0): ()}
    pairs = [(0, 0)]
    at = 0
    while at < len(pairs):
        p, q = pairs[at]
        for letter in range(len(rows[p])):
            state, bit = rows[p][letter]
            second, sign = others[q][letter]
            string = strings[(p, q)] + (letter,)
            if bit != sign:
                return string
            if (state, second) not in strings:
                strings[(state, second)] = string
                pairs.append((state, second))
        at += 1
    return None
