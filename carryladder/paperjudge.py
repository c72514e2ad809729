"""What is wrong with a paper."""

from carryladder.bounds import MAX_STRING
from carryladder.kinds import is_integer, is_tuple
from carryladder.leastmachines import least
from carryladder.rings import ring_from
from carryladder.turnings import turning

# The words of each book's papers.
WORDS = {
    "plain": ("two",),
    "prefix": ("merge", "odd"),
    "twice": ("both",),
    "minus": ("back",),
    "sums": ("ring",),
    "masks": ("even",),
    "turns": ("odd",),
}

# What stands behind each word.
SHAPES = {
    "two": ("state",),
    "merge": ("state", "state", "letter"),
    "odd": ("state", "string"),
    "both": ("state", "state", "string"),
    "back": ("state", "string", "string"),
    "ring": ("state", "string"),
    "even": ("state", "string", "string"),
}


def paper_error(machine, book, value):
    """Return None if value is a paper of machine for book, otherwise the first thing that is wrong."""
    small = least(machine)
    if not _is_formed(book, value):
        return "form"
    if not _are_states(small, value):
        return "state"
    if not _are_strings(small, value):
        return "string"
    if not _leads(small, value):
        return "leads"
    return None


def _is_formed(book, value):
    if not is_tuple(value, 2, 4) or value[0] not in WORDS[book]:
        return False
    return len(value) == 1 + len(SHAPES[value[0]])


def _items(value, kind):
    """Return the items of a paper that are told as this kind."""
    return [item for item, own in zip(value[1:], SHAPES[value[0]]) if own == kind]


def _are_states(machine, value):
    states = _items(value, "state")
    if not all([is_integer(state, len(machine[1]) - 1) for state in states]):
        return False
    if value[0] == "two":
        return states[0] > 0
    return len(states) == 1 or states[0] < states[1]


def _are_strings(machine, value):
    top = (1 << machine[0]) - 1
    strings = _items(value, "string")
    if not all([is_tuple(string, 1, MAX_STRING) for string in strings]):
        return False
    letters = _items(value, "letter") + [letter for string in strings for letter in string]
    if not all([is_integer(letter, top) for letter in letters]):
        return False
    return value[0] != "even" or len(strings[0]) == len(strings[1])


def _leads(machine, value):
    """Tell whether what the paper's word says of states and strings is so."""
    word = value[0]
    if word == "two":
        return True
    if word == "merge":
        _, p, q, letter = value
        return machine[1][p][letter][0] == machine[1][q][letter][0]
    if word == "both":
        _, p, q, string = value
        moves = turning(machine, string)
        return moves[p] == p and moves[q] == q
    moves = turning(machine, value[2])
    if word == "back":
        state = moves[value[1]]
        return state != value[1] and turning(machine, value[3])[state] == value[1]
    ring = ring_from(moves, value[1])
    if len(ring) < 2:
        return False
    if word == "odd":
        return len(ring) & 1 == 1
    if word == "even":
        still = turning(machine, value[3])
        return all([still[state] == state for state in ring])
    return True
