"""Machines whose letters set a state or leave it, and programs with the fewest rows that carry for them."""

from carryladder.errors import Unfit
from carryladder.latches import Codes, woven
from carryladder.leastmachines import least
from carryladder.turnings import turning


def setters(machine):
    """Tell whether each letter, in the least machine, leads each state to itself or all states to one."""
    return _sets(least(machine))


def fewest(machine):
    """Return the least number of rows that carry in programs of sums that tell machine; Unfit() if it is no setter."""
    small = least(machine)
    if not _sets(small):
        raise Unfit()
    return _figures(small)


def made_with_fewest(machine):
    """Return a program of sums that tells machine with as few rows that carry as can be; Unfit() as fewest."""
    small = least(machine)
    if not _sets(small):
        raise Unfit()
    size = _figures(small)
    # States are told by the figures of their numbers, and each figure is kept by one row that carries.
    codes = [tuple([state >> at & 1 for at in range(size)]) for state in range(len(small[1]))]
    return woven(Codes(small, codes, 1, [0] * len(codes)), True)


def _sets(machine):
    states = tuple(range(len(machine[1])))
    for letter in range(len(machine[1][0])):
        moves = turning(machine, (letter,))
        if moves != states and moves.count(moves[0]) < len(moves):
            return False
    return True


def _figures(machine):
    """Return how many figures in base two the greatest number of a state has."""
    return (len(machine[1]) - 1).bit_length()
