"""Programs for what is often wanted of words."""


def lowest_one():
    """Return a program that leaves the lowest one of a word alone."""
    return 1, (("minus", 0), ("and", 0, 1))


def below_lowest():
    """Return a program that writes ones below the lowest one of a word, everywhere if it has none."""
    return 1, (("minus", 0), ("or", 0, 1), ("not", 2))


def without_lowest():
    """Return a program that strikes the lowest one out of a word."""
    return 1, (("minus", 0), ("and", 0, 1), ("xor", 0, 2))


def run_cleared():
    """Return a program that strikes the lowest run of ones out of a word."""
    return 1, (("minus", 0), ("and", 0, 1), ("plus", 0, 2), ("and", 0, 3))


def times(n):
    """Return a program that multiplies a word by n."""
    rows = [("zero",)]
    for place in reversed(range(n.bit_length())):
        rows.append(("twice", len(rows)))
        if n >> place & 1:
            rows.append(("plus", 0, len(rows)))
    return 1, tuple(rows)


def gray():
    """Return a program that writes each bit xor the one below it."""
    return 1, (("twice", 0), ("xor", 0, 1))


def ungray():
    """Return a program that undoes that of gray."""
    return 1, (("prefix", 0),)


def every(n):
    """Return a program that writes a one at each n-th place, from the place 0 on."""
    return 0, (("mask", (1,) + (0,) * (n - 1)),)


def same_up_to():
    """Return a program that writes a one wherever two words are alike up to there."""
    return 2, (("xor", 0, 1), ("minus", 2), ("or", 2, 3), ("not", 4))


def greater():
    """Return a program that writes a one wherever, up to there, the first word is the greater one."""
    # The second word less the first one borrows there. Where both have the same bit, the bit of
    # the difference is the borrow that is handed on.
    return 2, (("less", 1, 0), ("xor", 0, 1), ("not", 3), ("and", 2, 4), ("and", 0, 3), ("or", 5, 6))


def carried():
    """Return a program that writes a one wherever two words, up to there, carry on."""
    # Where just one of both has a one, the sum has a nought there if it was carried to and carries on.
    return 2, (("plus", 0, 1), ("not", 2), ("or", 0, 1), ("and", 3, 4), ("and", 0, 1), ("or", 5, 6))
