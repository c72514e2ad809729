"""How many words lead where, and how many ones are written for all of them."""


def lots(machine, width):
    """Return for each state by how many tuples of words of this width the machine is led to it."""
    _, rows = machine
    counts = _first_counts(rows)
    for _ in range(width):
        counts = _counts_behind(rows, counts, (0, 1))
    return tuple(counts)


def noughts(machine, width):
    """Return for how many tuples of words of this width the machine writes the word 0."""
    _, rows = machine
    counts = _first_counts(rows)
    for _ in range(width):
        counts = _counts_behind(rows, counts, (0,))
    return sum(counts)


def ones_at(machine, i):
    """Return for how many tuples of words of the width i + 1 the bit i that is written is 1."""
    _, rows = machine
    return sum(_counts_behind(rows, lots(machine, i), (1,)))


def ones_in_all(machine, width):
    """Return how many bits that are written for all tuples of words of this width are 1, all together."""
    many, rows = machine
    counts = _first_counts(rows)
    ones = 0
    for _ in range(width):
        # Each word goes on in as many ways as there are letters, with the ones that it has.
        ones = (ones << many) + sum(_counts_behind(rows, counts, (1,)))
        counts = _counts_behind(rows, counts, (0, 1))
    return ones


def _first_counts(rows):
    return [1] + [0] * (len(rows) - 1)


def _counts_behind(rows, counts, bits):
    """Return for each state by how many strings it is come to with one letter more that writes one of bits."""
    behind = [0] * len(rows)
    for count, row in zip(counts, rows):
        for state, bit in row:
            if bit in bits:
                behind[state] += count
    return behind
