"""What several tests use: outcomes of calls, odd values, and machines and programs made by a seed."""

import random

from carryladder.errors import LadderError

ONE = ("zero", "ones")
TWO = ("not", "twice", "minus", "prefix")
THREE = ("and", "or", "xor", "plus", "less")

HUGE = 10 ** 399

# Values of all kinds, none of which is a machine, a program or a str with a text.
ODD = (
    None, True, False, 0, 1, 2, -1, HUGE, -HUGE, (), [], {}, (1,), (None,), [1], (1, 2, 3),
    {"a": 1}, {(1, ()): [2]}, {0: 1, 1: ()}, ((), ()), [(), ()], (((((((),),),),),),), ((1, 1), (1, 1)),
    (0,) * 4000, [[]] * 2000, "words", b"", "ab",
)

MINUS = (1, (((0, 0), (1, 1)), ((1, 1), (1, 0))))
PLUS = (2, (((0, 0), (0, 1), (0, 1), (1, 0)), ((0, 1), (1, 0), (1, 0), (1, 1))))
COPY = (1, (((0, 0), (0, 1)),))
PARITY = (1, (((0, 0), (1, 1)), ((1, 1), (0, 0))))
BLINK = (0, (((1, 0),), ((0, 1),)))

LOW = (1, (("minus", 0), ("and", 0, 1)))
MIXED = (2, (("less", 0, 1), ("mask", (0, 1, 1)), ("xor", 2, 3), ("prefix", 4), ("twice", 5)))


def outcome(call, *args, **named):
    """What a call comes to, with the kinds of all values in sight: 1 and True differ."""
    try:
        return repr(call(*args, **named))
    except LadderError as error:
        return raises(type(error), **vars(error))


def raises(kind, **fields):
    """The outcome of a call that raises an error of this class with these fields."""
    return "raises " + kind.__name__ + repr(sorted(fields.items()))


def is_whole(value, top):
    """Whether value is an integer from 0 to top; True and False are none."""
    return type(value) is int and 0 <= value <= top


def told_head(value, most):
    """What is wrong with a pair (many, rows), by the document's words, rows left out; None if nothing is."""
    if type(value) is not tuple or len(value) != 2 or type(value[1]) is not tuple or not 1 <= len(value[1]) <= most:
        return "form"
    return None if is_whole(value[0], 2) else "many"


def seeded(seed):
    return random.Random(seed)


def random_machine(rng, many, states):
    rows = [tuple([(rng.randrange(states), rng.randrange(2)) for _ in range(2 ** many)]) for _ in range(states)]
    return (many, tuple(rows))


def clock(bits, back=0):
    """A machine of no words that writes bits and goes on at the bit called back for ever."""
    rows = [((k + 1 if k + 1 < len(bits) else back, bit),) for k, bit in enumerate(bits)]
    return (0, tuple(rows))


def renamed(machine, names):
    """The machine with its state q called names[q]; it does the same if 0 keeps its name."""
    many, rows = machine
    made = [None] * len(rows)
    for q, row in enumerate(rows):
        made[names[q]] = tuple([(names[state], bit) for state, bit in row])
    return (many, tuple(made))


def bits_written(machine, string, state=0):
    bits = []
    for letter in string:
        state, bit = machine[1][state][letter]
        bits.append(bit)
    return bits


def letters(width, words):
    """The string of words, found by their figures in base two."""
    figures = [format(word, "b").zfill(width)[::-1] for word in words]
    return [sum(2 ** j for j, told in enumerate(figures) if told[place] == "1") for place in range(width)]


def random_row(rng, top, words=ONE + TWO + THREE + ("mask",)):
    """An instruction whose operands are below top; of none if top is 0."""
    word = rng.choice(words)
    while top == 0 and word not in ONE + ("mask",):
        word = rng.choice(words)
    if word in ONE:
        return (word,)
    if word == "mask":
        return (word, tuple([rng.randrange(2) for _ in range(rng.randint(1, 24))]))
    return (word,) + tuple([rng.randrange(top) for _ in range(1 if word in TWO else 2)])


def random_program(rng, many, length, words=ONE + TWO + THREE + ("mask",)):
    return (many, tuple([random_row(rng, many + k, words) for k in range(length)]))


def random_words(rng, many, width):
    return tuple([rng.randrange(2 ** width) for _ in range(many)])


def spoilt(rng, text):
    """The text with one or two small changes to its signs or its lines."""
    for _ in range(rng.randint(1, 2)):
        text = _spoilt_line(rng, text) if rng.randrange(3) == 0 else _spoilt_sign(rng, text)
    return text


def _spoilt_sign(rng, text):
    at = rng.randrange(len(text) + 1)
    sign = rng.choice(" \n\n  0123v/:=-+x")
    way = rng.randrange(4)
    if way == 0:
        return text[:at] + text[at + 1:]
    if way == 1:
        return text[:at] + sign + text[at:]
    if way == 2:
        return text[:at] + sign + text[at + 1:]
    return text[:at] + text[at:at + 1] * 2 + text[at + 1:]


def _spoilt_line(rng, text):
    lines = text.split("\n")
    at, other = rng.randrange(len(lines)), rng.randrange(len(lines))
    way = rng.randrange(4)
    if way == 0:
        lines[at], lines[other] = lines[other], lines[at]
    elif way == 1:
        lines.insert(at, lines[other])
    elif way == 2:
        lines.insert(at, "")
    else:
        del lines[at]
    return "\n".join(lines)


def machine_of_moves(moves, bits=None):
    """The machine whose letter x leads the state q to moves[x][q]; it writes 0, or bits[x][q]."""
    rows = []
    for q in range(len(moves[0])):
        rows.append(tuple([(moves[x][q], 0 if bits is None else bits[x][q]) for x in range(len(moves))]))
    return ({1: 0, 2: 1, 4: 2}[len(moves)], tuple(rows))


def cycles(*sizes):
    """The moves by which states go round in cycles of these sizes, one behind another."""
    moves = []
    for size in sizes:
        moves += [len(moves) + (k + 1) % size for k in range(size)]
    return moves


def states_told(row, state, a, b):
    """The bit of a row and its state behind, as they are told in words, for one place."""
    word = row[0]
    if word == "twice":
        return state, a
    if word == "minus":
        return (a + state) % 2, (1 if a == 1 else state)
    if word == "plus":
        return (a + b + state) % 2, (1 if a + b + state >= 2 else 0)
    if word == "less":
        return (a + b + state) % 2, (1 if a < b + state else 0)
    if word == "prefix":
        return (a + state) % 2, (a + state) % 2
    return row[1][state], (state + 1) % len(row[1])


def stepped(program, standing, letter):
    """The standing that a letter leads to, and the bit that is written, row by row."""
    many, rows = program
    bits = [letter // 2 ** j % 2 for j in range(many)]
    left, behind = list(standing), []
    for row in rows:
        word = row[0]
        if word in ("zero", "ones"):
            bits.append(0 if word == "zero" else 1)
        elif word == "not":
            bits.append(1 - bits[row[1]])
        elif word in ("and", "or", "xor"):
            a, b = bits[row[1]], bits[row[2]]
            bits.append({"and": a * b, "or": max(a, b), "xor": (a + b) % 2}[word])
        else:
            a, b = (0, 0) if word == "mask" else (bits[row[1]], bits[row[-1]])
            bit, state = states_told(row, left.pop(0), a, b)
            bits.append(bit)
            behind.append(state)
    return tuple(behind), bits[-1]


def standings(program, limit=10 ** 6):
    """All standings of a program, each with its steps; None if there are more than limit."""
    start = tuple([0 for row in program[1] if row[0] in ("twice", "minus", "plus", "less", "prefix", "mask")])
    found = {start: None}
    line = [start]
    for standing in line:
        found[standing] = [stepped(program, standing, letter) for letter in range(2 ** program[0])]
        for behind, _ in found[standing]:
            if behind not in found:
                found[behind] = None
                line.append(behind)
        if len(found) > limit:
            return None
    return found
