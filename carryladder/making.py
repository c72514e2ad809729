"""Programs made for machines."""

from carryladder.descents import descent_codes
from carryladder.errors import Unfit
from carryladder.latches import woven
from carryladder.leastmachines import least
from carryladder.rings import rings
from carryladder.risings import memory_codes, rising_codes
from carryladder.rungs import stands
from carryladder.turnings import steady_lots


def made(machine, book):
    """Return a program of book that tells machine; TooMany(limit) as stands; Unfit() if it does not stand on book.

    In the place of a program that would be too great TooMany(MAX_ROWS) or TooMany(MAX_PERIOD) is raised.
    """
    if not stands(machine, book):
        raise Unfit()
    small = least(machine)
    doubling = book in ("twice", "sums", "masks", "turns")
    # What twice or minus alone can do makes shorter programs than the books above them do.
    if doubling and stands(small, "twice"):
        return woven(memory_codes(small), True)
    if stands(small, "minus"):
        return woven(rising_codes(small), doubling)
    return woven(descent_codes(small, _still_period(small) if book == "masks" else 1), doubling)


def _still_period(machine):
    """Return the least divisor of steady's number such that no string of a multiple of its letters turns states."""
    turning = [_turns(lot) for lot in steady_lots(machine)]
    size = len(turning)
    # These lots come again and again, and with a turning each lot has those that are this turning again and again.
    # The first one is that of size letters, which is a multiple of each divisor; so are those behind it by steps.
    fitting = [step for step in range(1, size + 1) if size % step == 0 and not any(turning[::step])]
    return fitting[0]


def _turns(lot):
    """Tell whether one of the turnings of a lot has a ring of two states or more."""
    return any([len(ring) > 1 for moves in lot for ring in rings(moves)])
