"""Programs run at a width."""


def values(program, width, words):
    """Return the tuple of the values of all rows at this width, for words of it."""
    many, rows = program
    ones = (1 << width) - 1
    known = list(words)
    for row in rows:
        # Sums are reckoned as whole numbers; what is beyond the width is cut off here.
        known.append(_whole(row, width, known) & ones)
    return tuple(known[many:])


def result(program, width, words):
    """Return the value of the last row at this width, for words of it."""
    return values(program, width, words)[-1]


def _whole(row, width, known):
    """Return an integer that has the bits of the row's value below the width."""
    if row[0] == "zero":
        return 0
    if row[0] == "ones":
        return -1
    if row[0] == "mask":
        return _masked(row[1], width)
    if len(row) == 2:
        return _of_one(row[0], known[row[1]], width)
    return _of_two(row[0], known[row[1]], known[row[2]])


def _of_one(word, a, width):
    if word == "not":
        return ~a
    if word == "twice":
        return a + a
    if word == "minus":
        return -a
    return _prefixed(a, width)


def _of_two(word, a, b):
    if word == "and":
        return a & b
    if word == "or":
        return a | b
    if word == "xor":
        return a ^ b
    if word == "plus":
        return a + b
    return a - b


def _masked(bits, width):
    return sum([bits[place % len(bits)] << place for place in range(width)])


def _prefixed(a, width):
    reach = 1
    while reach < width:
        # Now each bit is the xor of the reach bits of a at and below it; twice as many next.
        a ^= a << reach
        reach += reach
    return a
