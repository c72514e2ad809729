"""Programs woven of codes: a row or two keep each bit of a code from place to place."""

from carryladder.deciding import decided
from carryladder.rowmaking import RowMaker


class Codes:
    """A machine with a code for each state: a tuple of bits, noughts alone for the state 0.

    What a bit of the code becomes hangs on the letter, on the place modulo period, which each state tells, on the
    bits ahead of it, and on the bit itself.
    """

    def __init__(self, machine, codes, period, places):
        count, rows = machine
        self.count = count
        self.rows = rows
        self.codes = codes
        self.period = period
        self.places = places

    def length(self):
        """Return how many bits a code has."""
        return len(self.codes[0])

    def keyed(self, size):
        """Return triples (key, state, step) for all states and letters.

        The key is made of the letter, the first bits of the state's code, as many as size tells, and the place.
        """
        found = []
        for state, row in enumerate(self.rows):
            head = self.places[state] << size | sum([bit << at for at, bit in enumerate(self.codes[state][:size])])
            for letter, step in enumerate(row):
                found.append((letter | head << self.count, state, step))
        return found


def woven(codes, doubling):
    """Return the program that does what the machine of codes does; doubling tells whether it may have twice."""
    maker = RowMaker(codes.count)
    known = list(range(codes.count))
    for at in range(codes.length()):
        known.append(_woven_bit(maker, known, codes, doubling))
    table = {key: bit for key, _, (_, bit) in codes.keyed(codes.length())}
    return maker.program(decided(maker, known, table, codes.period))


def _woven_bit(maker, known, codes, doubling):
    """Return the value that has the next bit of the codes; known are the words and the bits ahead of it."""
    at = len(known) - codes.count
    # What becomes of a nought there, and of a one, by keys.
    behind = ({}, {})
    for key, state, (coming, _) in codes.keyed(at):
        behind[codes.codes[state][at]][key] = codes.codes[coming][at]
    moved = _moved(behind)
    if doubling and moved is not None:
        return maker.number(("twice", decided(maker, known, moved, codes.period)))
    flips = _flips(behind)
    if 1 not in list(flips.values()):
        return _kept(maker, known, behind, codes.period)
    flipped = decided(maker, known, flips, codes.period)
    parity = maker.just_one(maker.number(("prefix", flipped)), flipped)
    # Where the parity alone is not the bit, a bit that is kept stands beside it.
    corrections = _corrections(behind, flips, len(known))
    return maker.just_one(parity, _kept(maker, known + [parity], corrections, codes.period))


def _moved(behind):
    """Return what the bit becomes, whatever it was, or None if it hangs on that."""
    moved = dict(behind[0])
    for key, bit in behind[1].items():
        if moved.setdefault(key, bit) != bit:
            return None
    return moved


def _flips(behind):
    """Return the table of where the bit is flipped, being neither kept nor set nor cleared."""
    flips = {key: 0 for own in behind for key in own}
    for key, bit in behind[0].items():
        if bit == 1 and behind[1].get(key) == 0:
            flips[key] = 1
    return flips


def _kept(maker, known, behind, period):
    """Return the value of a bit that is nought at first, and then is set, cleared or kept at each place."""
    # It is the carry of two words: set where both have ones, cleared where both have noughts, kept where just the
    # other one has a one. A nought that stays may have been cleared or kept, a one that stays set or kept.
    ones = dict(behind[0])
    for key, bit in behind[1].items():
        if bit == 0:
            ones[key] = 0
    others = dict(behind[1])
    for key, bit in behind[0].items():
        if bit == 1:
            others[key] = 1
    setting = decided(maker, known, ones, period)
    staying = decided(maker, known, others, period)
    if maker.is_steady(setting, 0):
        return setting
    if maker.is_steady(staying, 1):
        return maker.above_lowest(setting)
    return maker.just_one(maker.number(("plus", setting, staying)), maker.just_one(setting, staying))


def _corrections(behind, flips, size):
    """Return what becomes of the bit xor the parity of its flips below, by keys with this parity at the place size."""
    corrections = ({}, {})
    for own in (0, 1):
        for key, bit in behind[own].items():
            place = key >> size
            head = key ^ (place << size)
            for odd in (0, 1):
                longer = head | (odd << size) | (place << (size + 1))
                corrections[own ^ odd][longer] = bit ^ odd ^ flips[key]
    return corrections
