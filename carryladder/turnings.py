"""The turnings of a machine: where strings lead each of its states."""

from carryladder.bounds import MAX_TURNINGS
from carryladder.errors import TooMany


def turning(machine, string):
    """Return the tuple that tells for each state where string leads it."""
    _, rows = machine
    states = list(range(len(rows)))
    for letter in string:
        states = [rows[state][letter][0] for state in states]
    return tuple(states)


class Steps:
    """The turnings that were come to, with numbers, and those that come by one more letter."""

    def __init__(self, machine):
        _, rows = machine
        self.letters = [[row[letter][0] for row in rows] for letter in range(len(rows[0]))]
        self.told = []
        self.numbers = {}
        self.following = []

    def number(self, own):
        """Return the number of a turning, a new one if it has none yet."""
        if own not in self.numbers:
            self.numbers[own] = len(self.told)
            self.told.append(own)
            self.following.append(None)
        return self.numbers[own]

    def behind(self, number):
        """Return for each letter the number of the turning with this letter behind it."""
        # Lots have the same turnings again and again, so each is followed but once.
        if self.following[number] is None:
            own = self.told[number]
            self.following[number] = [self.number(tuple([moves[state] for state in own])) for moves in self.letters]
        return self.following[number]


def turnings(machine):
    """Return the pairs of all turnings by strings, ascending, each with its first shortest string."""
    steps = Steps(machine)
    strings = {}
    line = [(steps.number(turning(machine, ())), ())]
    at = 0
    while at < len(line):
        number, string = line[at]
        for letter, after in enumerate(steps.behind(number)):
            if after not in strings:
                strings[after] = string + (letter,)
                line.append((after, strings[after]))
        if len(strings) > MAX_TURNINGS:
            raise TooMany(MAX_TURNINGS)
        at += 1
    return tuple(sorted([(steps.told[number], strings[number]) for number in strings]))


def steady(machine):
    """Return (s, pairs): the first s whose lot is that of 2 * s, and the pairs of this lot, ascending."""
    steps = Steps(machine)
    lots = _lots(machine, steps)
    half = len(lots) // 2
    return half, _pairs_of(steps, lots[:half + 1])


def steady_lots(machine):
    """Return the lists of the turnings of the lots of s, s + 1 and so on to 2 * s - 1, s being that of steady."""
    steps = Steps(machine)
    lots = _lots(machine, steps)
    return [[steps.told[number] for number in lot] for lot in lots[len(lots) // 2:-1]]


def _lots(machine, steps):
    """Return the lots of 0, 1 and so on to 2 * s; TooMany(MAX_TURNINGS) if there is no such s, or one is too great."""
    lots = [{steps.number(turning(machine, ())): None}]
    while len(lots) <= 2 * MAX_TURNINGS:
        lots.append(_next_lot(steps, lots[-1]))
        length = len(lots) - 1
        if len(lots[length]) > MAX_TURNINGS:
            raise TooMany(MAX_TURNINGS)
        half = length // 2
        if length == half + half and sorted(lots[half]) == sorted(lots[length]):
            return lots
    raise TooMany(MAX_TURNINGS)


def _next_lot(steps, lot):
    """Return the lot of one more letter, each turning with the way to it.

    A lot has its turnings in the order of their first strings. A way is the pair of the turning
    ahead and the letter: that which comes first belongs to the first string.
    """
    coming = {}
    for number in lot:
        for letter, after in enumerate(steps.behind(number)):
            if after not in coming:
                coming[after] = (number, letter)
    return coming


def _pairs_of(steps, lots):
    """Return the ascending pairs of the turnings of the last lot and their first strings."""
    return tuple(sorted([(steps.told[number], _string_to(lots, number)) for number in lots[-1]]))


def _string_to(lots, number):
    letters = []
    for lot in reversed(lots[1:]):
        number, letter = lot[number]
        letters.append(letter)
    return tuple(reversed(letters))
