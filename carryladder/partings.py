"""Where two machines of any number of states part."""

from carryladder.letters import words_of


def parting_at(many, rows, others):
    """Return the least width and its first words at which rows and others part, or None."""
    string = _parting_string(rows, others)
    if string is None:
        return None
    return len(string), words_of(many, string)


def _parting_string(rows, others):
    """Return the shortest string, and of these the first one, by which the rows part."""
    # Pairs of states are gone through in the order of their first strings, shorter ones ahead.
    # A pair is left out if pairs ahead link its states: a string that parts it parts one of those, too.
    pairs = [(0, 0)]
    ways = [None]
    leaders = list(range(len(rows) + len(others)))
    _linked(leaders, 0, len(rows))
    at = 0
    while at < len(pairs):
        p, q = pairs[at]
        for letter, (state, bit) in enumerate(rows[p]):
            second, sign = others[q][letter]
            if bit != sign:
                return _string_back(ways, at, (letter,))
            if _linked(leaders, state, len(rows) + second):
                pairs.append((state, second))
                ways.append((at, letter))
        at += 1
    return None


def _linked(leaders, one, other):
    """Link two states, and tell whether they were not linked before."""
    one, other = _leader(leaders, one), _leader(leaders, other)
    leaders[one] = other
    return one != other


def _leader(leaders, state):
    while leaders[state] != state:
        # Each look shortens the way for the next one.
        leaders[state] = leaders[leaders[state]]
        state = leaders[state]
    return state


def _string_back(ways, at, string):
    """Return the letters that lead to the pair at this place, and then string."""
    letters = list(string)
    while ways[at] is not None:
        at, letter = ways[at]
        letters.append(letter)
    return tuple(reversed(letters))
