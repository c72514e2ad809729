"""Bits of many places side by side: integers as rows of them, strs as columns."""


def signs_across(vectors, size):
    """Return for each place below size the str of the vectors' bits there, first vector first."""
    if size <= 8:
        # Few figures come again and again, and telling them anew each time is slow.
        told = [f"{vector:b}".zfill(size) for vector in range(1 << size)]
        whole = "".join([told[vector] for vector in vectors])
    else:
        whole = "".join([f"{vector:b}".zfill(size) for vector in vectors])
    return [whole[size - 1 - place::size] for place in range(size)]


def vectors_across(signs):
    """Return the vectors of which signs_across makes these strs."""
    size = len(signs[0])
    if len(signs) == 1:
        return [1 if sign == "1" else 0 for sign in signs[0]]
    whole = "".join(list(reversed(signs)))
    return [int(whole[place::size], 2) for place in range(size)]
