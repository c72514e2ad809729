"""Programs made for machines."""

from carryladder.descents import descent_codes
from carryladder.errors import Unfit
from carryladder.latches import woven
from carryladder.leastmachines import least
from carryladder.risings import memory_codes, rising_codes
from carryladder.rungs import stands
from carryladder.turnings import steady_lots


def made(machine, book):
    """Return a program of book that tells machine; TooMany(limit) as stands; Unfit() if it does not stand on book.

    In the place of a program that would be too great TooMany(MAX_ROWS) or TooMany(MAX_PERIOD) is raised.
    """
    if not stands(machine, book):
        raise Unfit()
    small = least(machine)
    doubling = book in ("twice", "sums", "masks", "turns")
    # What twice or minus alone can do makes shorter programs than the books above them do.
    if doubling and stands(small, "twice"):
        return woven(memory_codes(small), True)
    if stands(small, "minus"):
        return woven(rising_codes(small), doubling)
    return woven(descent_codes(small, _still_period(small) if book == "masks" else 1), doubling)


def _still_period(machine):
    """Return the least divisor of steady's number such that no string of a multiple of its letters turns states."""
    # A string that turns states does so again and again, and the lots come again and again behind the first one of
    # these. That is the lot of as many letters as these are lots, so its multiples are the steps from it.
    lots = steady_lots(machine)
    for step in range(1, len(lots)):
        if len(lots) % step == 0 and _are_still(lots[::step]):
            return step
    return len(lots)


def _are_still(lots):
    """Tell whether no turning of these lots has a ring of two states or more."""
    for lot in lots:
        for moves in lot:
            if not _is_still(moves):
                return False
    return True


def _is_still(moves):
    # Behind as many moves as there are states, or more, all stay just if there are only rings of one state.
    behind = moves
    for _ in range(len(moves).bit_length()):
        behind = tuple([behind[state] for state in behind])
    return behind == tuple([moves[state] for state in behind])
