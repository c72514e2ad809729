"""Least machines, and where two machines part."""

from carryladder.bounds import MAX_STATES
from carryladder.errors import TooMany, Unfit
from carryladder.partings import parting_at


def least(machine):
    """Return the machine of the fewest states that writes the same, its states in order.

    A machine of more than MAX_STATES states may be handed in; TooMany(MAX_STATES) is raised if more are left.
    """
    many, rows = machine
    reached = _in_order(rows)
    return many, _in_order(_merged(reached, _classes(reached)))


def _in_order(rows):
    """Return the rows of the states that strings come to, numbered as they are come to."""
    order = [0]
    numbers = {0: 0}
    at = 0
    while at < len(order):
        row = rows[order[at]]
        for state, _ in row:
            if state not in numbers:
                numbers[state] = len(order)
                order.append(state)
        at += 1
    return tuple([_with_states(rows[old], numbers) for old in order])


def _with_states(row, numbers):
    """Return the row with numbers[state] in the place of each state."""
    return tuple([(numbers[state], bit) for state, bit in row])


def _classes(rows):
    """Return for each state the number of its class, being those that write alike.

    Classes are numbered as they first come, so equal splits are equal lists.
    """
    classes = [0] * len(rows)
    while True:
        told = {}
        finer = []
        for row in rows:
            finer.append(told.setdefault(_with_states(row, classes), len(told)))
        # Classes are only ever split, so that there is no need to go on.
        if len(told) > MAX_STATES:
            raise TooMany(MAX_STATES)
        if finer == classes:
            return classes
        classes = finer


def _merged(rows, classes):
    """Return one row for each class, that of its first state."""
    merged = []
    for row, own in zip(rows, classes):
        if own == len(merged):
            merged.append(_with_states(row, classes))
    return merged


def alike(one, other):
    """Tell whether both machines write the same at every width; Unfit() as parting."""
    return parting(one, other) is None


def parting(one, other):
    """Return the least width and its first words at which the machines part, or None."""
    many, rows = one
    if many != other[0]:
        raise Unfit()
    return parting_at(many, rows, other[1])
