"""The document's words on rungs and papers, by looks of the tests' own at the least machine."""

import itertools

from carryladder.leastmachines import least
from tests.helpers import is_whole

BOOKS = ("plain", "prefix", "twice", "minus", "sums", "masks", "turns")


def moves_of(machine, string):
    """The turning by a string, state by state."""
    moves = []
    for state in range(len(machine[1])):
        for letter in string:
            state = machine[1][state][letter][0]
        moves.append(state)
    return tuple(moves)


def ring_lengths(moves):
    """For each state how many moves bring it back for the first time, 0 if none do."""
    lengths = []
    for state in range(len(moves)):
        at, told = state, 0
        for count in range(1, len(moves) + 1):
            at = moves[at]
            if at == state:
                told = count
                break
        lengths.append(told)
    return lengths


def all_turnings(machine):
    """All turnings by strings of one letter or more: those of the letters, put behind one another."""
    letters = [moves_of(machine, (x,)) for x in range(2 ** machine[0])]
    found, line = set(letters), list(set(letters))
    for moves in line:
        for own in letters:
            both = tuple([moves[state] for state in own])
            if both not in found:
                found.add(both)
                line.append(both)
    return found


def all_lots(machine):
    """The lots of 1, 2, 3 and so on, until one comes again."""
    letters = [moves_of(machine, (x,)) for x in range(2 ** machine[0])]
    lots, lot = [], frozenset(letters)
    while lot not in lots:
        lots.append(lot)
        lot = frozenset([tuple([own[state] for state in moves]) for moves in lot for own in letters])
    return lots


def closed(steps):
    """All pairs (start, end) such that one or more of the steps lead from start to end."""
    led = {start: set(ends) for start, ends in steps.items()}
    for middle in steps:
        for start in steps:
            if middle in led[start]:
                led[start] |= led[middle]
    return {(start, end) for start in led for end in led[start]}


def led_back(machine, many):
    """Whether some string leads each of many unlike states back to itself, for one state by way of another one."""
    rows = machine[1]
    steps = {}
    for states in itertools.permutations(range(len(rows)), many):
        ends = [tuple([rows[state][x][0] for state in states]) for x in range(2 ** machine[0])]
        steps[states] = {end for end in ends if len(set(end)) == many}
    led = closed(steps)
    if many == 1:
        return any(start != end and (end, start) in led for start, end in led)
    return any(start == end for start, end in led)


def turned_and_still(machine):
    """Whether of two strings as long one turns states as a ring and the other one leads each of them back."""
    for lot in all_lots(machine):
        for moves in lot:
            lengths = ring_lengths(moves)
            for state, length in enumerate(lengths):
                if length < 2:
                    continue
                ring = [state]
                while len(ring) < length:
                    ring.append(moves[ring[-1]])
                if any(all(other[own] == own for own in ring) for other in lot):
                    return True
    return False


def told_stands(machine, book):
    """stands, by what [E1] says of the least machine."""
    small = least(machine)
    rows = small[1]
    if book == "plain":
        return len(rows) == 1
    if book == "twice":
        return len(rows) == 1 or not led_back(small, 2)
    if book == "minus":
        return not led_back(small, 1)
    if book == "masks":
        return not turned_and_still(small)
    lengths = {length for moves in all_turnings(small) for length in ring_lengths(moves)}
    if book == "sums":
        return lengths <= {0, 1}
    if book == "turns":
        return not any(length % 2 and length > 1 for length in lengths)
    one_to_one = all(len({row[x][0] for row in rows}) == len(rows) for x in range(2 ** small[0]))
    return one_to_one and not any(length % 2 and length > 1 for length in lengths)


def told_books(machine):
    return tuple([book for book in BOOKS if told_stands(machine, book)])


# What the items behind a paper's word are: q a state, s a string, x a letter.
ITEMS = {"two": "q", "merge": "qqx", "odd": "qs", "both": "qqs", "back": "qss", "ring": "qs", "even": "qss"}
PAPERS = {"plain": ("two",), "prefix": ("merge", "odd"), "twice": ("both",), "minus": ("back",), "sums": ("ring",),
          "masks": ("even",), "turns": ("odd",)}


def told_error(machine, book, value):
    """paper_error, by what [E3] and [E4] say."""
    small = least(machine)
    if type(value) is not tuple or len(value) == 0 or type(value[0]) is not str or value[0] not in PAPERS[book]:
        return "form"
    word, items = value[0], value[1:]
    if len(items) != len(ITEMS[word]):
        return "form"
    told = {kind: [item for item, own in zip(items, ITEMS[word]) if own == kind] for kind in "qsx"}
    if not all(is_whole(state, len(small[1]) - 1) for state in told["q"]):
        return "state"
    if told["q"] == [0] and word == "two" or word in ("merge", "both") and told["q"][0] >= told["q"][1]:
        return "state"
    if not all(type(string) is tuple and 1 <= len(string) <= 4000 for string in told["s"]):
        return "string"
    if not all(is_whole(letter, 2 ** small[0] - 1) for letter in list(itertools.chain(*told["s"])) + told["x"]):
        return "string"
    if word == "even" and len(items[1]) != len(items[2]):
        return "string"
    return None if leads(small, word, *items) else "leads"


def leads(small, word, q, *items):
    if word == "two":
        return True
    if word == "merge":
        return small[1][q][items[1]][0] == small[1][items[0]][items[1]][0]
    moves = moves_of(small, items[0]) if word != "both" else moves_of(small, items[1])
    if word == "both":
        return moves[q] == q and moves[items[0]] == items[0]
    if word == "back":
        return moves[q] != q and moves_of(small, items[1])[moves[q]] == q
    length = ring_lengths(moves)[q]
    if word == "ring":
        return length > 1
    if word == "odd":
        return length > 1 and length % 2 == 1
    ring = [q]
    for _ in range(length):
        ring.append(moves[ring[-1]])
    return length > 1 and all(moves_of(small, items[1])[own] == own for own in ring)
