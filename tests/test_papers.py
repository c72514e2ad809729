"""paper."""

import itertools
import time
import unittest

from carryladder.carrying import machine_of
from carryladder.errors import TooMany
from carryladder.leastmachines import least
from carryladder.paperjudge import paper_error
from carryladder.papers import paper
from carryladder.rungs import stands
from carryladder.tricks import every, lowest_one, times, ungray
from carryladder.turnings import steady, turnings
from tests.helpers import (BLINK, COPY, MINUS, PARITY, PLUS, clock, cycles, machine_of_moves, outcome, raises,
                           random_machine, renamed, seeded)
from tests.rungs_told import BOOKS, PAPERS, told_error, told_stands
from tests.test_rungs import branched, quotient, told_apart

MANY = raises(TooMany, limit=2000)


class PaperTest(unittest.TestCase):
    def check(self, machine):
        """paper of each book, judged by the tests' own look and by paper_error; the words of those returned."""
        words = set()
        for book in BOOKS:
            found = paper(machine, book)
            self.assertEqual(found is None, told_stands(machine, book), (machine, book))
            self.assertEqual(found is None, stands(machine, book))
            if found is None:
                continue
            self.assertIsNone(told_error(machine, book, found), (machine, book, found))
            self.assertIsNone(paper_error(machine, book, found))
            self.assertIn(found[0], PAPERS[book])
            self.assertEqual(repr(paper(machine, book)), repr(found))
            words.add(found[0])
        return words

    def test_random_machines(self):
        rng = seeded(321)
        words = set()
        for many in (0, 1, 2):
            for states in range(1, 5):
                for _ in range(30):
                    words |= self.check(random_machine(rng, many, states))
        self.assertEqual(words, {"two", "merge", "odd", "both", "back", "ring", "even"})

    def test_all_machines_of_two_states_and_one_word(self):
        for moves in itertools.product((0, 1), repeat=4):
            steps = list(zip(moves, (0, 1, 1, 0)))
            self.check((1, (tuple(steps[:2]), tuple(steps[2:]))))

    def test_known_machines(self):
        for machine in (MINUS, PLUS, COPY, PARITY, BLINK, machine_of(lowest_one()), machine_of(ungray())):
            self.check(machine)
        self.assertEqual(outcome(paper, COPY, "plain"), "None")
        self.assertEqual(outcome(paper, MINUS, "plain"), "('two', 1)")
        self.assertEqual(outcome(paper, MINUS, "minus"), "None")
        self.assertEqual(outcome(paper, MINUS, "prefix"), "('merge', 0, 1, 1)")

    def test_clocks(self):
        for states in range(1, 25):
            for back in range(0, states, 4):
                self.check(clock((0,) * (states - 1) + (1,), back))

    def test_multiplying_and_dividing(self):
        for n in range(2, 20):
            self.check(machine_of(times(n)))
        for odd in range(3, 24, 2):
            self.assertEqual(self.check(quotient(odd)) - {"merge", "odd"}, {"two", "both", "back", "ring", "even"})

    def test_masks_of_all_sizes(self):
        for n in range(2, 25):
            words = self.check(machine_of(every(n)))
            self.assertEqual("odd" in words, n & (n - 1) != 0)
            self.assertNotIn("even", words)

    def test_machines_that_are_not_least(self):
        rng = seeded(322)
        for machine in (MINUS, PARITY, PLUS, quotient(3)):
            many, rows = machine
            size = 2 * len(rows)
            made = tuple([tuple([(state + len(rows) * rng.randrange(2), bit) for state, bit in row]) for row in rows])
            names = [0] + rng.sample(range(1, size), size - 1)
            other = renamed((many, made + made), names)
            self.check(other)
            for book in BOOKS:
                # The states and strings told are those of the least machine.
                self.assertEqual(paper(other, book), paper(least(other), book))
                self.assertEqual(paper(other, book), paper(machine, book))

    def test_long_strings(self):
        rng = seeded(323)
        start = time.perf_counter()
        # Here two states come back to themselves, or turn, by long strings alone.
        locks = [[q + 1 if x == 3 * q % 4 else 23 for q in range(22)] + [0 if x == 2 else 23, 23] for x in range(4)]
        self.check(told_apart(rng, locks))
        waits = [[1, 2, 3, 4, 0, 6, 7, 8, 9, 10, 11, 5], [q if q < 5 else 12 - 1 for q in range(12)]]
        self.check(told_apart(rng, waits))
        moves = branched((3, 5, 7, 8))
        machine = told_apart(rng, moves)
        self.assertEqual(outcome(paper, machine, "masks"), "None")
        for book in ("plain", "prefix", "twice", "minus"):
            found = paper(machine, book)
            self.assertIsNone(told_error(machine, book, found))
            self.assertIsNone(paper_error(machine, book, found))
        both = paper(machine, "twice")
        self.assertGreaterEqual(len(both[3]), 3)
        self.assertLess(time.perf_counter() - start, 60)

    def test_long_strings_for_masks(self):
        # The strings told are as long as s, not as long as s and the ring together.
        rng = seeded(324)
        moves = branched((5, 7, 9, 2))
        moves[3] = moves[3][:22] + [22, 23]
        machine = told_apart(rng, moves)
        found = paper(machine, "masks")
        self.assertEqual(found[0], "even")
        self.assertEqual(steady(least(machine))[0], 315)
        self.assertEqual(len(found[2]), len(found[3]))
        self.assertLessEqual(len(found[2]), 4000)
        self.assertIsNone(told_error(machine, "masks", found))
        self.assertIsNone(paper_error(machine, "masks", found))

    def test_one_ring_of_24(self):
        rng = seeded(325)
        machine = told_apart(rng, [cycles(24), list(range(24))])
        self.assertEqual(self.check(machine), {"two", "odd", "both", "back", "ring", "even"})
        machine = told_apart(rng, [cycles(16), list(range(16))])
        self.assertEqual(self.check(machine), {"two", "both", "back", "ring", "even"})
        machine = told_apart(rng, [cycles(23), [0] + list(range(22, 0, -1))])
        self.assertEqual(self.check(machine), {"two", "odd", "both", "back", "ring", "even"})

    def test_too_many(self):
        rng = seeded(326)
        still = list(range(7))
        for last, raised in ((still, ("prefix", "sums", "masks", "turns")), ([3] * 7, ("sums", "masks", "turns"))):
            machine = told_apart(rng, [cycles(7), [1, 0, 2, 3, 4, 5, 6], still, last])
            for book in BOOKS:
                told = outcome(paper, machine, book)
                self.assertEqual(told == MANY, book in raised, book)
                self.assertEqual(outcome(stands, machine, book), MANY if book in raised else "False")
                if book not in raised:
                    self.assertIsNone(told_error(machine, book, paper(machine, book)))
        self.assertEqual(outcome(turnings, machine), MANY)

    def test_a_call_behind_an_error(self):
        machine = told_apart(seeded(327), [cycles(7), [1, 0, 2, 3, 4, 5, 6], list(range(7)), [3] * 7])
        for _ in range(2):
            self.assertEqual(outcome(paper, machine, "sums"), MANY)
            self.assertEqual(outcome(paper, PARITY, "sums"), "('ring', 0, (1,))")


if __name__ == "__main__":
    unittest.main()
