"""Machines: what is one, what it writes, and where it ends."""

from carryladder.bounds import MAX_STATES
from carryladder.kinds import head_error, is_integer, is_tuple
from carryladder.letters import string_of


def machine_error(value):
    """Return None if value is a machine, otherwise the first thing that is wrong with it."""
    error = head_error(value, MAX_STATES)
    if error is not None:
        return error
    many, rows = value
    letters = 1 << many
    for state, row in enumerate(rows):
        if not is_tuple(row, letters, letters):
            return ("row", state)
    # A letter is looked at only when every row has the right length.
    for state, row in enumerate(rows):
        for letter, step in enumerate(row):
            if not _is_step(step, len(rows)):
                return ("letter", state, letter)
    return None


def _is_step(step, states):
    return is_tuple(step, 2, 2) and is_integer(step[0], states - 1) and is_integer(step[1], 1)


def written(machine, width, words):
    """Return the word that the machine writes when it reads words of this width."""
    _, rows = machine
    state = 0
    word = 0
    for place, letter in enumerate(string_of(width, words)):
        state, bit = rows[state][letter]
        word |= bit << place
    return word


def ending(machine, string):
    """Return the state in which the machine is behind the last letter of string."""
    _, rows = machine
    state = 0
    for letter in string:
        state = rows[state][letter][0]
    return state
