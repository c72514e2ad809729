"""Codes of machines whose states are left for good, and of those that know their last letters."""

from carryladder.latches import Codes


def rising_codes(machine):
    """Return codes for a machine that never comes again to a state that it left.

    The states are put in an order in which letters lead on; each bit tells whether the machine is behind a state.
    """
    _, rows = machine
    order = []
    while len(order) < len(rows):
        order.append(_next_state(rows, order))
    codes = [()] * len(rows)
    for at, state in enumerate(order):
        codes[state] = (1,) * at + (0,) * (len(rows) - 1 - at)
    return Codes(machine, codes, 1, [0] * len(rows))


def _next_state(rows, order):
    """Return the first state that is not in order, and to which only states in order lead."""
    left = [state for state in range(len(rows)) if state not in order]
    led = [after for state in left for after, _ in rows[state] if after != state]
    return [state for state in left if state not in led][0]


def memory_codes(machine):
    """Return codes for a machine whose state hangs on its last letters alone.

    States are of one class if all strings of so many letters lead them to one. The class for many letters is told
    first, then which class for one letter less it is within that, and so on; each hangs on those ahead of it.
    """
    _, rows = machine
    codes = [()] * len(rows)
    sorts = _sorts(rows)
    for wide, close in zip(sorts, sorts[1:]):
        codes = [code + bits for code, bits in zip(codes, _parted(wide, close))]
    return Codes(machine, codes, 1, [0] * len(rows))


def _sorts(rows):
    """Return lists of the classes of the states, from one class for all of them to one for each."""
    sorts = [list(range(len(rows)))]
    while max(sorts[-1]) > 0:
        told = {}
        wider = []
        for row in rows:
            wider.append(told.setdefault(tuple([sorts[-1][after] for after, _ in row]), len(told)))
        sorts.append(wider)
    return list(reversed(sorts))


def _parted(wide, close):
    """Return for each state the bits that tell its close class within its wide one, noughts for the state 0."""
    numbers = {}
    told = []
    for own, within in zip(wide, close):
        there = numbers.setdefault(own, {})
        told.append(there.setdefault(within, len(there)))
    size = max(told).bit_length()
    return [tuple([number >> at & 1 for at in reversed(range(size))]) for number in told]
