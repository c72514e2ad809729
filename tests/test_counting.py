"""lots, noughts, ones_at, ones_in_all."""

import itertools
import time
import unittest

from carryladder.counting import lots, noughts, ones_at, ones_in_all
from carryladder.leastmachines import least
from carryladder.machines import ending, written
from tests.helpers import (BLINK, COPY, MINUS, PARITY, PLUS, clock, cycles, letters, machine_of_moves, outcome,
                           random_machine, renamed, seeded)

LATE = (1, (((0, 0), (1, 0)), ((0, 1), (1, 1))))


def all_words(many, width):
    return list(itertools.product(range(2 ** width), repeat=many))


class CountingCase(unittest.TestCase):
    def check(self, machine, width):
        """Check all counts at a width beside a look at all tuples of words."""
        many, rows = machine
        ends, told = [0] * len(rows), []
        for words in all_words(many, width):
            ends[ending(machine, tuple(letters(width, words)))] += 1
            told.append(written(machine, width, words))
        self.assertEqual(outcome(lots, machine, width), repr(tuple(ends)))
        self.assertEqual(outcome(noughts, machine, width), repr(told.count(0)))
        self.assertEqual(outcome(ones_in_all, machine, width), repr(sum(bin(word).count("1") for word in told)))
        ones = len([word for word in told if word >> width - 1])
        self.assertEqual(outcome(ones_at, machine, width - 1), repr(ones))


class SmallWidthsTest(CountingCase):
    def test_known_machines(self):
        for machine in (MINUS, PLUS, COPY, PARITY, BLINK, LATE, clock((0, 0, 1)), clock((1, 0, 1, 1), 2)):
            for width in range(1, 6 if machine[0] == 2 else 9):
                self.check(machine, width)

    def test_random_machines(self):
        rng = seeded(601)
        for many, widths in ((0, (1, 2, 3, 7, 20)), (1, (1, 2, 3, 6, 8)), (2, (1, 2, 3, 4))):
            for states in (1, 2, 3, 5, 8, 24):
                for width in widths:
                    for _ in range(3):
                        self.check(random_machine(rng, many, states), width)

    def test_states_that_strings_come_to_late(self):
        rng = seeded(602)
        for size in (2, 5, 9):
            moves = [[min(q + 1, size - 1) for q in range(size)], cycles(size)]
            machine = machine_of_moves(moves, [[rng.randrange(2) for _ in range(size)] for _ in range(2)])
            for width in range(1, 10):
                self.check(machine, width)
                for state, count in enumerate(lots(machine, width)):
                    strings = itertools.product(range(2), repeat=width)
                    self.assertEqual(count > 0, any(ending(machine, string) == state for string in strings))


class GreatWidthsTest(CountingCase):
    def test_at_once(self):
        rng = seeded(611)
        start = time.perf_counter()
        for many in (0, 1, 2):
            for states in (1, 2, 24):
                machine = random_machine(rng, many, states)
                self.assertEqual(sum(lots(machine, 256)), (2 ** many) ** 256)
                self.assertLessEqual(noughts(machine, 256), (2 ** many) ** 256)
                self.assertLessEqual(ones_at(machine, 255), (2 ** many) ** 256)
                self.assertLessEqual(ones_in_all(machine, 256), 256 * (2 ** many) ** 256)
        self.assertLess(time.perf_counter() - start, 10)

    def test_known_numbers(self):
        self.assertEqual(lots(MINUS, 256), (1, 2 ** 256 - 1))
        self.assertEqual(noughts(MINUS, 256), 1)
        self.assertEqual(ones_at(MINUS, 255), 2 ** 255)
        self.assertEqual(ones_in_all(MINUS, 256), 256 * 2 ** 255)
        self.assertEqual(lots(PLUS, 256), (2 ** 511 + 2 ** 255, 2 ** 511 - 2 ** 255))
        self.assertEqual(noughts(PLUS, 256), 2 ** 256)
        self.assertEqual([ones_at(PLUS, i) for i in (0, 99, 255)], [2, 2 ** 199, 2 ** 511])
        self.assertEqual(lots(PARITY, 256), (2 ** 255, 2 ** 255))
        self.assertEqual(lots(LATE, 256), (2 ** 255, 2 ** 255))
        self.assertEqual(noughts(LATE, 256), 2)
        self.assertEqual(noughts(COPY, 256), 1)
        self.assertEqual(noughts((2, (((0, 0),) * 4,)), 256), 4 ** 256)
        self.assertEqual(ones_in_all((2, (((0, 1),) * 4,)), 256), 256 * 4 ** 256)
        self.assertEqual(ones_in_all(clock((0, 0, 1)), 256), 85)
        self.assertEqual([ones_at(clock((0, 0, 1)), i) for i in (253, 254, 255)], [0, 1, 0])
        self.assertEqual(lots(clock((0, 0, 1)), 256), (0, 1, 0))

    def test_ones_in_all_is_made_of_ones_at(self):
        rng = seeded(612)
        for many in (0, 1, 2):
            for states in (2, 7):
                machine = random_machine(rng, many, states)
                for width in (1, 40, 256):
                    told = sum(ones_at(machine, i) * (2 ** many) ** (width - 1 - i) for i in range(width))
                    self.assertEqual(ones_in_all(machine, width), told)

    def test_lots_of_a_width_from_those_of_a_lesser_one(self):
        rng = seeded(613)
        for many in (0, 1, 2):
            machine = random_machine(rng, many, 6)
            for v, w in ((1, 1), (3, 2), (100, 3), (253, 2)):
                told = [0] * 6
                for state, count in enumerate(lots(machine, v)):
                    for string in itertools.product(range(2 ** many), repeat=w):
                        after = state
                        for letter in string:
                            after = machine[1][after][letter][0]
                        told[after] += count
                self.assertEqual(lots(machine, v + w), tuple(told))

    def test_noughts_become_few_times_more(self):
        rng = seeded(614)
        for many in (0, 1, 2):
            for _ in range(5):
                machine = random_machine(rng, many, 5)
                counts = [noughts(machine, width) for width in range(1, 257)]
                for one, other in zip(counts, counts[1:]):
                    self.assertLessEqual(other, 2 ** many * one)


class OtherMachinesTest(CountingCase):
    def test_machines_alike(self):
        rng = seeded(621)
        for many in (0, 1, 2):
            for states in (2, 3, 6):
                machine = random_machine(rng, many, states)
                other = renamed(machine, [0] + rng.sample(range(1, states), states - 1))
                doubled = (many, machine[1] + machine[1])
                for own in (least(machine), other, doubled):
                    for width in (1, 2, 33, 256):
                        self.assertEqual(noughts(own, width), noughts(machine, width))
                        self.assertEqual(ones_in_all(own, width), ones_in_all(machine, width))
                        self.assertEqual(ones_at(own, width - 1), ones_at(machine, width - 1))

    def test_lots_are_those_of_the_machine_as_it_is(self):
        machine = (1, (((1, 0), (2, 0)), ((1, 0), (1, 0)), ((2, 0), (2, 0)), ((3, 0), (3, 1))))
        self.assertEqual(lots(machine, 3), (0, 4, 4, 0))
        self.assertEqual(lots(least(machine), 3), (8,))


if __name__ == "__main__":
    unittest.main()
