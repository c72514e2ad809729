"""hangs, reach."""

import itertools
import unittest

from carryladder.carrying import machine_of, places
from carryladder.errors import TooMany
from carryladder.hanging import hangs, reach
from carryladder.leastmachines import least
from carryladder.machines import written
from carryladder.rungs import stands
from tests.helpers import (COPY, MINUS, PARITY, PLUS, cycles, machine_of_moves, outcome, raises, random_machine,
                           random_program, renamed, seeded)
from tests.making_told import PLAIN, counted, drawn_bits, last_letters, left_for_good

MANY = (raises(TooMany, limit=2000), raises(TooMany, limit=24))


def hanging_at(machine, j, width):
    """The distances at which bits written hang on bits of words[j], by a look at all words of a width."""
    found = set()
    for words in itertools.product(range(2 ** width), repeat=machine[0]):
        told = written(machine, width, words)
        for at in range(width):
            others = [word ^ 1 << at if k == j else word for k, word in enumerate(words)]
            unlike = told ^ written(machine, width, tuple(others))
            found |= {i - at for i in range(width) if unlike >> i & 1}
    return found


def pairs_ahead(machine, j):
    """For each distance from 0 on whether bits hang, and which pairs of states stand there, by pairs as they are."""
    rows, size = machine[1], len(machine[1][0])
    seen, line = {0}, [0]
    for state in line:
        for after, _ in rows[state]:
            if after not in seen:
                seen.add(after)
                line.append(after)
    others = [letter ^ 2 ** j for letter in range(size)]
    yield any(rows[q][x][1] != rows[q][others[x]][1] for q in seen for x in range(size)), None
    pairs = {(rows[q][x][0], rows[q][others[x]][0]) for q in seen for x in range(size)}
    while True:
        yield any(rows[p][x][1] != rows[q][x][1] for p, q in pairs for x in range(size)), frozenset(pairs)
        pairs = {(rows[p][x][0], rows[q][x][0]) for p, q in pairs for x in range(size)}


def told_reach(machine, j):
    """reach, by going on until the pairs of states come again."""
    seen, told = {}, []
    for distance, (differs, pairs) in enumerate(pairs_ahead(machine, j)):
        if pairs in seen:
            return None if any(told[seen[pairs]:]) else max([-1] + [at for at, own in enumerate(told) if own])
        told.append(differs)
        if pairs is not None:
            seen[pairs] = distance


def delay(length):
    """The machine that writes the bit which was read so many letters ago: its state is what it read since."""
    size = 2 ** length
    rows = [tuple([((q * 2 + x) % size, q * 2 // size) for x in range(2)]) for q in range(size)]
    return (1, tuple(rows))


class HangingCase(unittest.TestCase):
    def check(self, machine):
        """Check both beside looks at pairs of states, and at words."""
        for j in range(machine[0]):
            told = [differs for _, (differs, _) in zip(range(45), pairs_ahead(machine, j))]
            for distance in (0, 1, 2, 3, 4, 5, 6, 9, 14, 23, 24, 30, 44):
                self.assertEqual(hangs(machine, j, distance), told[distance], (machine, j, distance))
            self.assertEqual(outcome(reach, machine, j), repr(told_reach(machine, j)), (machine, j))

    def check_words(self, machine, width):
        """Check that all distances of a width are told, and, at what is a great width for the machine, no others."""
        for j in range(machine[0]):
            found = hanging_at(machine, j, width)
            told = {distance for distance in range(width) if hangs(machine, j, distance)}
            self.assertLessEqual(found, told)
            late = len(machine[1])
            self.assertEqual({distance for distance in told if distance + late <= width},
                             {distance for distance in found if distance + late <= width})


class WordsTest(HangingCase):
    def test_small_machines(self):
        rng = seeded(701)
        for states in (1, 2, 3):
            for _ in range(25):
                self.check_words(random_machine(rng, 1, states), 8)
            for _ in range(6):
                self.check_words(random_machine(rng, 2, states), 4)

    def test_known_machines(self):
        for machine in (MINUS, COPY, PARITY, delay(1), delay(2)):
            self.check_words(machine, 8)
        self.check_words(PLUS, 4)


class PairsTest(HangingCase):
    def test_random_machines(self):
        rng = seeded(711)
        for many in (1, 2):
            for states in (1, 2, 3, 4, 6, 12, 24):
                for _ in range(20 if states < 12 else 6):
                    self.check(random_machine(rng, many, states))

    def test_machines_of_other_kinds(self):
        rng = seeded(712)
        for many in (1, 2):
            for states in (2, 4, 8, 24):
                for _ in range(6):
                    self.check(left_for_good(rng, many, states))
            for count in (1, 2):
                for cut in (0, 1):
                    self.check(last_letters(rng, many, count, cut))
        for states in range(2, 25):
            self.check(counted(rng, states))

    def test_machines_that_are_not_least(self):
        rng = seeded(713)
        for many in (1, 2):
            for _ in range(20):
                machine = random_machine(rng, many, 4)
                other = renamed((many, machine[1] + machine[1][1:]), [0] + rng.sample(range(1, 7), 6))
                self.check(machine)
                for j in range(many):
                    for own in (least(machine), other):
                        self.assertEqual(reach(own, j), reach(machine, j))
                        for distance in (0, 1, 2, 3, 50):
                            self.assertEqual(hangs(own, j, distance), hangs(machine, j, distance))

    def test_states_that_no_string_comes_to(self):
        # Only from the state 1 does a letter matter, and no string comes to it.
        machine = (1, (((0, 0), (0, 0)), ((0, 0), (1, 1))))
        self.assertEqual(reach(machine, 0), -1)
        self.assertFalse(hangs(machine, 0, 0))


class KnownTest(HangingCase):
    def test_delays(self):
        for length in (1, 2, 3, 4):
            machine = delay(length)
            self.assertEqual(reach(machine, 0), length)
            self.assertEqual([hangs(machine, 0, at) for at in range(6)], [at == length for at in range(6)])

    def test_never(self):
        blinking = (1, (((1, 0), (1, 0)), ((0, 1), (0, 1))))
        self.assertEqual(reach(blinking, 0), -1)
        self.assertEqual([hangs(blinking, 0, at) for at in (0, 1, 2, 400)], [False] * 4)
        one = (2, (((0, 0), (0, 1), (0, 0), (0, 1)),))
        self.assertEqual((reach(one, 0), reach(one, 1)), (0, -1))
        self.assertEqual(repr(hangs(one, 0, 0)) + repr(hangs(one, 1, 0)), "TrueFalse")

    def test_without_end(self):
        for machine in (MINUS, PARITY):
            self.assertIsNone(reach(machine, 0))
            self.assertTrue(all(hangs(machine, 0, at) for at in range(0, 401, 25)))
        for j in (0, 1):
            self.assertIsNone(reach(PLUS, j))
            self.assertTrue(hangs(PLUS, j, 0) and hangs(PLUS, j, 400))

    def test_without_end_but_not_at_each_distance(self):
        # What is read at each third place turns what is written two places behind it, and at each third one from there.
        around = []
        for q in range(6):
            odd, place = q // 3, q % 3
            around.append(tuple([((odd ^ (x if place == 0 else 0)) * 3 + (place + 1) % 3,
                                  odd if place == 2 else 0) for x in range(2)]))
        machine = (1, tuple(around))
        self.check(machine)
        self.assertIsNone(reach(machine, 0))
        self.assertEqual([hangs(machine, 0, at) for at in range(9)], [at % 3 == 2 for at in range(9)])
        self.assertEqual([hangs(machine, 0, at) for at in (398, 399, 400)], [True, False, False])

    def test_a_long_way_to_the_end(self):
        # Behind the first letter 23 states are gone through, and the last one tells which letter it was.
        rows = [((1, 0), (12, 0))]
        for q in range(1, 12):
            rows.append(((min(q + 1, 11), 0),) * 2)
        for q in range(12, 24):
            rows.append(((min(q + 1, 23), 1 if q == 22 else 0),) * 2)
        machine = (1, tuple(rows))
        self.check(machine)
        self.assertEqual(reach(machine, 0), 11)

    def test_a_great_reach(self):
        # Two clocks of 11 and 12 states stand apart for 132 places at most, but a letter brings both to rest.
        rng = seeded(721)
        for _ in range(10):
            moves = [cycles(11, 12), [min(q + 1, 22) for q in range(23)]]
            machine = drawn_bits(rng, moves)
            self.check(machine)


class HoldsTest(HangingCase):
    def test_twice(self):
        rng = seeded(731)
        machines = [random_machine(rng, many, states) for many in (1, 2) for states in (2, 3, 4) for _ in range(40)]
        machines += [last_letters(rng, many, count, cut) for many, count in ((1, 2), (1, 3), (2, 1)) for cut in (0, 1)]
        machines += [counted(rng, states) for states in (2, 5, 24)]
        machines += [machine_of_moves([cycles(3)] * 2, [[0, 0, 1]] * 2)]
        for machine in machines:
            state, small = 0, least(machine)
            for _ in small[1]:
                state = small[1][state][0][0]
            rests = small[1][state][0][0] == state
            ends = all(reach(machine, j) is not None for j in range(machine[0]))
            self.assertEqual(stands(machine, "twice"), rests and ends, machine)

    def test_greatest_reach(self):
        rng = seeded(732)
        for many in (1, 2):
            for _ in range(80):
                machine = random_machine(rng, many, rng.choice((2, 3, 4)))
                size = len(least(machine)[1])
                for j in range(many):
                    self.assertLessEqual(reach(machine, j) or 0, size * (size - 1) // 2)

    def test_programs(self):
        rng = seeded(733)
        for words, most in ((PLAIN, 0), (PLAIN + ("twice",) * 4, None)):
            taken = 0
            while taken < 40:
                program = random_program(rng, rng.choice((1, 2)), rng.randint(1, 8), words)
                if outcome(places, program) in MANY or outcome(machine_of, program) in MANY:
                    continue
                taken += 1
                doubling = len([row for row in program[1] if row[0] == "twice"])
                for j in range(program[0]):
                    self.assertLessEqual(reach(machine_of(program), j), doubling if most is None else most)


if __name__ == "__main__":
    unittest.main()
