"""On which bits that are read the written ones hang."""

from carryladder.leastmachines import least


def hangs(machine, j, distance):
    """Tell whether, at some width, some bit i that is written hangs on the bit i - distance of words[j]."""
    rows = least(machine)[1]
    if distance == 0:
        return _hangs_at_once(rows, j)
    pairs = _first_pairs(rows, j)
    for _ in range(distance - 1):
        pairs = _pairs_behind(rows, pairs)
    return _write_unlike(rows, pairs)


def reach(machine, j):
    """Return the greatest distance at which a written bit hangs on one of words[j], -1 for none, None for no end."""
    rows = least(machine)[1]
    greatest = 0 if _hangs_at_once(rows, j) else -1
    pairs = _first_pairs(rows, j)
    distance = 0
    while pairs:
        distance += 1
        # Behind more letters than there are pairs one has come again, and from it some string of letters, which can
        # be made as long as is liked, leads to unlike bits.
        if distance > len(rows) * (len(rows) - 1) // 2:
            return None
        if _write_unlike(rows, pairs):
            greatest = distance
        pairs = _pairs_behind(rows, pairs)
    return greatest


def _hangs_at_once(rows, j):
    return any([row[letter][1] != row[letter ^ 1 << j][1] for row in rows for letter in range(len(row))])


def _first_pairs(rows, j):
    """Return the pairs of unlike states that come by letters that differ in their bit j alone."""
    steps = [(row[letter][0], row[letter ^ 1 << j][0]) for row in rows for letter in range(len(row))]
    return sorted(set([(p, q) for p, q in steps if p < q]))


def _pairs_behind(rows, pairs):
    """Return the pairs of unlike states to which letters lead these pairs."""
    steps = [(one[0], other[0]) for p, q in pairs for one, other in zip(rows[p], rows[q])]
    return sorted(set([(min(p, q), max(p, q)) for p, q in steps if p != q]))


def _write_unlike(rows, pairs):
    """Tell whether a letter writes unlike bits from the states of some pair."""
    return any([one[1] != other[1] for p, q in pairs for one, other in zip(rows[p], rows[q])])
