"""Values that have, at each place, the bit that a table tells of the bits of others there."""

from carryladder.masking import place_operand


def decided(maker, variables, table, period):
    """Return a value that has the bit that the table tells, wherever it tells one.

    The table is a dict. The bit k of a key is that of variables[k], and what stands above these bits is the place
    modulo period.
    """
    # The last ones are tried first, as the first ones are needed for others, too.
    return _decided(maker, variables, table, period, list(reversed(range(len(variables)))))


def _decided(maker, variables, table, period, places):
    bits = sorted(set(list(table.values())))
    if len(bits) < 2:
        return maker.steady(1 if bits == [1] else 0)
    table, places = _without_idle(table, places)
    if not places:
        size = len(variables)
        return place_operand(maker, period, {key >> size: bit for key, bit in table.items()})
    at = places[0]
    parts = ({}, {})
    for key, bit in table.items():
        parts[key >> at & 1][key & ~(1 << at)] = bit
    low = _decided(maker, variables, parts[0], period, places[1:])
    high = _decided(maker, variables, parts[1], period, places[1:])
    return maker.chosen(variables[at], high, low)


def _without_idle(table, places):
    """Return the table without places of its keys on which it need not hang, and the places that are left."""
    left = []
    for at in places:
        merged = _without(table, at)
        if merged is None:
            left.append(at)
        else:
            table = merged
    return table, left


def _without(table, at):
    """Return the table with noughts at this place of its keys, or None if it hangs on the place."""
    merged = {}
    for key, bit in table.items():
        if merged.setdefault(key & ~(1 << at), bit) != bit:
            return None
    return merged
