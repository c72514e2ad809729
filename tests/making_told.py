"""Machines that stand on this or that book, and looks of the tests' own at programs beside machines."""

from tests.helpers import cycles, machine_of_moves, stepped

PLAIN = ("zero", "ones", "not", "and", "or", "xor")
WORDS = {
    "plain": (),
    "prefix": ("prefix",),
    "twice": ("twice",),
    "minus": ("minus",),
    "sums": ("twice", "minus", "plus", "less"),
    "masks": ("twice", "minus", "plus", "less", "mask"),
    "turns": ("twice", "minus", "plus", "less", "prefix"),
}
KEEPING = ("twice", "minus", "plus", "less", "prefix", "mask")

# The eight moves of a square, its corners told one after another around.
SQUARE = ([0, 1, 2, 3], [1, 2, 3, 0], [2, 3, 0, 1], [3, 0, 1, 2], [0, 3, 2, 1], [2, 1, 0, 3], [1, 0, 3, 2], [3, 2, 1, 0])


def does_as(program, machine, most=10 ** 5):
    """Whether a program writes what a machine writes, place by place, from each pair of standing and state come to."""
    if program[0] != machine[0]:
        return False
    start = (tuple([0 for row in program[1] if row[0] in KEEPING]), 0)
    found, line = {start}, [start]
    for standing, state in line:
        for letter, (coming, told) in enumerate(machine[1][state]):
            behind, bit = stepped(program, standing, letter)
            if bit != told:
                return False
            if (behind, coming) not in found:
                found.add((behind, coming))
                line.append((behind, coming))
        if len(found) > most:
            raise AssertionError("too many pairs")
    return True


def drawn_bits(rng, moves):
    """The machine of these moves with drawn bits."""
    return machine_of_moves(moves, [[rng.randrange(2) for _ in own] for own in moves])


def left_for_good(rng, many, states):
    """A machine that leads states to greater ones, or leaves them as they are."""
    moves = [[rng.choice((q, rng.randrange(q, states))) for q in range(states)] for _ in range(2 ** many)]
    return drawn_bits(rng, moves)


def last_letters(rng, many, count, cut):
    """A machine that knows its last letters, so many as count; cut of them lead to one state each."""
    size = (2 ** many) ** count
    moves = [[(q * 2 ** many + x) % size for q in range(size)] for x in range(2 ** many)]
    for x in range(cut):
        moves[x] = [x] * size
    return drawn_bits(rng, moves)


def counted(rng, states):
    """A machine that counts the same letters at its end, up to a bound; its states are told by the last letters."""
    return drawn_bits(rng, [[min(q + 1, states - 1) for q in range(states)], [0] * states])


def lower(rng, states):
    return [rng.randint(0, q) for q in range(states)]


def higher(rng, states):
    return [rng.randint(q, states - 1) for q in range(states)]


def one_up(rng, states):
    return [min(q + 1, states - 1) for q in range(states)]


def one_down(rng, states):
    return [max(q - 1, 0) for q in range(states)]


def ordered(rng, states):
    return sorted([rng.randrange(states) for _ in range(states)])


def to_one(rng, states):
    return [rng.randrange(states)] * states


def staying(rng, states):
    return list(range(states))


def around(rng, states):
    return cycles(states)


def pairs_turned(rng, states):
    moves = list(range(states))
    for q in range(0, states - 1, 2):
        if rng.randrange(2):
            moves[q], moves[q + 1] = q + 1, q
    return moves


def squares_turned(rng, states):
    moves = list(range(states))
    for q in range(0, states - 3, 4):
        moves[q:q + 4] = [q + corner for corner in rng.choice(SQUARE)]
    return moves


def halves_turned(rng, states):
    """Moves of a power of two of states: each half is turned within itself, or both are exchanged besides."""
    if states == 1:
        return [0]
    half = states // 2
    one, other = halves_turned(rng, half), halves_turned(rng, half)
    if rng.randrange(2):
        return [half + q for q in one] + other
    return one + [half + q for q in other]


def drawn_moves(rng, many, states, kinds):
    return drawn_bits(rng, [rng.choice(kinds)(rng, states) for _ in range(2 ** many)])


def into_clocks(rng, many, sizes):
    """A machine whose first state is left by each letter for a clock, and whose clocks are of these sizes."""
    clocks = [1 + q for q in cycles(*sizes)]
    firsts = [1 + sum(sizes[:k]) for k in range(len(sizes))]
    return drawn_bits(rng, [[firsts[x % len(firsts)]] + clocks for x in range(2 ** many)])
