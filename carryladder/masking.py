"""Operands that hang on the place alone, made of masks."""

from math import gcd

from carryladder.bounds import MAX_PERIOD
from carryladder.errors import TooMany


def place_operand(maker, period, table):
    """Return an operand whose bit at each place is what the table tells of the place modulo period.

    The table is a dict; where it tells nothing the bit may be either. Where no masks are long enough
    TooMany(MAX_PERIOD) is raised.
    """
    period, table = _shortest(period, table)
    if period == 1:
        return maker.steady(table.get(0, 0))
    if period <= MAX_PERIOD:
        return maker.number(("mask", tuple([table.get(place, 0) for place in range(period)])))
    # Two numbers that share no divisor tell by what is left over of both what is left over of their product.
    share = _greatest_share(period)
    rest = period // share
    operand = maker.steady(0)
    for place in range(share):
        told = {at % rest: bit for at, bit in table.items() if at % share == place}
        there = place_operand(maker, share, {own: 1 if own == place else 0 for own in range(share)})
        operand = maker.either(operand, maker.both(there, place_operand(maker, rest, told)))
    return operand


def _shortest(period, table):
    """Return the least divisor of period that will do, and the table modulo it."""
    for size in range(1, period):
        if period % size == 0:
            told = _modulo(size, table)
            if told is not None:
                return size, told
    return period, table


def _modulo(size, table):
    told = {}
    for place, bit in table.items():
        if told.setdefault(place % size, bit) != bit:
            return None
    return told


def _greatest_share(period):
    """Return the greatest divisor that a mask may have and that shares none with the rest of period."""
    shares = [size for size in range(2, MAX_PERIOD + 1) if period % size == 0 and gcd(size, period // size) == 1]
    if not shares:
        raise TooMany(MAX_PERIOD)
    return shares[-1]
