"""Rows of a program that is being made."""

from carryladder.bounds import MAX_ROWS
from carryladder.errors import TooMany
from carryladder.programs import neat


class RowMaker:
    """The rows of a program to be, no row twice. Words and values are told by their numbers, as operands are."""

    def __init__(self, count):
        self.count = count
        self.rows = []
        self.numbers = {}

    def number(self, row):
        """Return the number of the value of this row."""
        if row not in self.numbers:
            # Some rows may not be used in the end, but a program that grows as long as this is given up.
            if len(self.rows) == 2 * MAX_ROWS:
                raise TooMany(MAX_ROWS)
            self.numbers[row] = self.count + len(self.rows)
            self.rows.append(row)
        return self.numbers[row]

    def program(self, operand):
        """Return the program whose result this is; TooMany(MAX_ROWS) if it is too long."""
        if operand < self.count:
            # A word is the value of no row, but its and with itself is.
            operand = self.number(("and", operand, operand))
        program = neat((self.count, tuple(self.rows[:operand - self.count + 1])))
        if len(program[1]) > MAX_ROWS:
            raise TooMany(MAX_ROWS)
        return program

    def steady(self, bit):
        """Return the value all of whose bits are this one."""
        return self.number(("ones",) if bit else ("zero",))

    def is_steady(self, a, bit):
        """Tell whether all bits of a are known to be this one."""
        return self.numbers.get(("ones",) if bit else ("zero",)) == a

    def are_opposite(self, a, b):
        """Tell whether one of these is known to be the other one turned."""
        return self.numbers.get(("not", a)) == b or self.numbers.get(("not", b)) == a

    def turned(self, a):
        """Return not a."""
        for bit in (0, 1):
            if self.is_steady(a, bit):
                return self.steady(1 - bit)
        if a >= self.count and self.rows[a - self.count][0] == "not":
            return self.rows[a - self.count][1]
        return self.number(("not", a))

    def both(self, a, b):
        """Return a and b."""
        if a == b or self.is_steady(b, 1):
            return a
        if self.is_steady(a, 1):
            return b
        if self.is_steady(a, 0) or self.is_steady(b, 0) or self.are_opposite(a, b):
            return self.steady(0)
        return self.number(("and", min(a, b), max(a, b)))

    def either(self, a, b):
        """Return a or b."""
        if a == b or self.is_steady(b, 0):
            return a
        if self.is_steady(a, 0):
            return b
        if self.is_steady(a, 1) or self.is_steady(b, 1) or self.are_opposite(a, b):
            return self.steady(1)
        return self.number(("or", min(a, b), max(a, b)))

    def just_one(self, a, b):
        """Return a xor b."""
        if a == b:
            return self.steady(0)
        if self.are_opposite(a, b):
            return self.steady(1)
        for one, other in ((a, b), (b, a)):
            if self.is_steady(one, 0):
                return other
            if self.is_steady(one, 1):
                return self.turned(other)
        return self.number(("xor", min(a, b), max(a, b)))

    def chosen(self, at, high, low):
        """Return what has the bits of high where at has ones, and those of low elsewhere."""
        if self.is_steady(high, 1):
            return self.either(at, low)
        if self.is_steady(low, 0):
            return self.both(at, high)
        if self.is_steady(high, 0):
            return self.both(self.turned(at), low)
        if self.is_steady(low, 1):
            return self.either(self.turned(at), high)
        return self.just_one(self.both(at, self.just_one(high, low)), low)

    def above_lowest(self, a):
        """Return ones at all places above the lowest one of a."""
        return self.just_one(self.number(("minus", a)), a)
